package window_test

import (
	"fmt"
	"math"
	"math/rand"
	"slices"
	"testing"

	"stipend/api"
	"stipend/base"
	"stipend/code"
	"stipend/frac"
	"stipend/hold"
	"stipend/keep"
	"stipend/pair"
	"stipend/period"
	"stipend/piece"
	"stipend/run"
	"stipend/social"
	"stipend/table"
	"stipend/tax"
	"stipend/window"
)

// The document's limits.
const (
	top    = 10_000_000_000  // the most that is paid more
	money  = 100_000_000_000 // the greatest amount
	full   = 10_000
	pieces = 128
)

// edges: numbers at which something may go over.
var edges = []int64{
	math.MinInt64, math.MinInt64 + 1, -1 << 62, -money - 2, -money - 1, -money, -money + 1, -top - 1, -top, -100, -1, 0, 1, 100, 1000,
	top - 1, top, top + 1, money - 1, money, money + 1, money + 2, 1 << 62, math.MaxInt64 - 1, math.MaxInt64,
}

// read: the table of lines.
func read(t *testing.T, lines ...string) api.Table {
	t.Helper()
	x, n, e := table.Read(lines...)
	if e != api.OK {
		t.Fatalf("line %d: %v", n, e)
	}
	return x
}

// coded: the code of a text.
func coded(t *testing.T, text string) api.Code {
	t.Helper()
	c, e := code.Parse(text)
	if e != api.OK {
		t.Fatalf("%s: %v", text, e)
	}
	return c
}

// hired: an employee of a table and a code, paid by the month.
func hired(t *testing.T, x api.Table, text string) *run.Employee {
	t.Helper()
	y, e := period.New(api.Monthly, api.Date{Year: 2023, Month: 4, Day: 6})
	p, d := run.New(x, y, coded(t, text))
	if p == nil || e != api.OK || d != api.OK {
		t.Fatalf("New: %v %v", e, d)
	}
	return p
}

// of: an element, once.
func of(kind string, amount int64) api.Element {
	return api.Element{Kind: kind, Amount: amount, Units: 100}
}

// must tells a test's fault, if there is an error.
func must(t *testing.T, list ...api.Errno) {
	t.Helper()
	for i, e := range list {
		if e != api.OK {
			t.Fatalf("call %d: %v", i, e)
		}
	}
}

// envelope: that of an employee who has one.
func envelope(t *testing.T, p *run.Employee) *window.Envelope {
	t.Helper()
	w, e := window.Of(p)
	if w == nil || e != api.OK {
		t.Fatalf("Of: %v %v", w, e)
	}
	return w
}

// example: the document's: a fifth of tax, a tenth of up to 500.
func example(t *testing.T, rounds string) api.Table {
	t.Helper()
	return read(t, "limit 8500", "round "+rounds, "scheme 0.00:2000", "contrib care social "+rounds+" 5.00 0.00 0.00:1000:0", "kind salary + + +", "kind car 0 + 0", "kind back - 0 0", "kind cash + 0 0", "kind tip 0 0 +", "kind less - - -")
}

// model: the exact net pay of an amount and the exact tax of it, in parts, by the words of the promise, from the layers below.
func model(t *testing.T, p *run.Employee, h int64) (int64, int64) {
	t.Helper()
	x, y, inputs, was := p.Table(), p.Year(), p.Inputs(), p.Posted().Totals()
	ahead, e := run.Reckon(x, y, 0, inputs...)
	must(t, e)
	now, e := run.Reckon(x, y, h, append(inputs, run.Input{Code: p.TaxCode(), Elements: p.Next()})...)
	must(t, e)
	own, c := now.Periods[len(now.Periods)-1], p.TaxCode()
	n, d, e := y.Part(p.Period())
	must(t, e)
	due, e := tax.Exact(x, c, now.Sum.Taxable, n, d)
	if c.Alone {
		due, e = tax.Exact(x, c, own.Taxable, 1, d)
		due += frac.Exact(ahead.Tax * full)
	}
	must(t, e)
	cash := now.Sum.Cash - was.Cash
	held := hold.Part(int64(due)-was.Tax*full, max(cash, 0)*int64(x.Limit), !c.Alone)
	net := cash*full - held
	for i, contrib := range x.Contribs {
		counted := int64(0)
		for _, b := range ahead.Periods {
			counted += base.Under(contrib, base.On(contrib, b), counted)
		}
		both, e := social.Exact(contrib, base.Under(contrib, base.On(contrib, own), counted))
		side, _, f := pair.Sides(both)
		must(t, e, f)
		net -= side + (ahead.Shares[i].Employee-was.Shares[i].Employee)*full
	}
	return net, held
}

// chanceBands: bands whose greatest rate of the employee's is no more than one, with corners of a size.
func chanceBands(r *rand.Rand, rate int, size int64, employer bool) []api.Band {
	list := []api.Band{{}}
	for n := r.Intn(8); n > 0; n-- {
		if from := list[len(list)-1].From + 1 + r.Int63n(size); from <= money {
			list = append(list, api.Band{From: from})
		}
	}
	for i := range list {
		list[i].Rate = r.Intn(rate + 1)
		if r.Intn(4) == 0 {
			list[i].Rate = rate
		}
		if employer {
			list[i].Employer = r.Intn(2001)
		}
	}
	return list
}

// chanceTable: a table that is accepted, with corners of a size.
func chanceTable(r *rand.Rand, size int64) api.Table {
	x := api.Table{Round: 1 + r.Intn(6)}
	left := 9500
	some := func() int { // of what may be taken yet
		rate := r.Intn(left + 1)
		if r.Intn(3) > 0 {
			rate /= 4
		}
		left -= rate
		return rate
	}
	most := some()
	x.Limit = most
	if r.Intn(3) == 0 {
		x.Limit = r.Intn(most + 1)
	}
	for range 1 + r.Intn(3) {
		x.Schemes = append(x.Schemes, chanceBands(r, most, size, false))
	}
	for i := range r.Intn(7) {
		c := api.Contrib{Name: "c" + string(rune('a'+i)), Base: 1 + r.Intn(2), Bands: chanceBands(r, some(), size, true), Round: 1 + r.Intn(6)}
		if r.Intn(2) == 0 {
			c.PeriodCeil = r.Int63n(8 * size)
		}
		if r.Intn(2) == 0 {
			c.YearCeil = r.Int63n(20 * size)
		}
		c.PeriodCeil, c.YearCeil = min(c.PeriodCeil, money), min(c.YearCeil, money)
		x.Contribs = append(x.Contribs, c)
	}
	x.Kinds = []api.Kind{
		{Name: "salary", Cash: 1, Taxable: 1, Social: 1}, {Name: "car", Taxable: 1}, {Name: "saved", Cash: -1, Taxable: -1}, {Name: "cash", Cash: 1},
		{Name: "tip", Social: 1}, {Name: "back", Cash: -1}, {Name: "less", Cash: -1, Taxable: -1, Social: -1},
	}
	return x
}

// chanceCode: a code that fits a table, one in three alone.
func chanceCode(r *rand.Rand, x api.Table, size int64) api.Code {
	c := api.Code{Scheme: r.Intn(len(x.Schemes)), Kind: 1 + r.Intn(4), Alone: r.Intn(3) == 0}
	switch c.Kind {
	case api.CodeFree:
		c.Amount = r.Int63n(min(6*size/1000, 999999)+1) * 1000
	case api.CodeExtra:
		c.Amount = (1 + r.Int63n(min(6*size/1000, 999998)+1)) * 1000
	case api.CodeFlat:
		c.Flat = r.Intn(len(x.Schemes[c.Scheme]))
	}
	return c
}

// chanceElements: elements of a table's kinds.
func chanceElements(r *rand.Rand, x api.Table, size int64) []api.Element {
	var list []api.Element
	for range r.Intn(4) {
		list = append(list, of(x.Kinds[r.Intn(len(x.Kinds))].Name, r.Int63n(4*size)))
	}
	if r.Intn(2) == 0 {
		list = append(list, of("salary", r.Int63n(4*size)))
	}
	return list
}

// chance: an employee, some periods on, of whom some was corrected: the same at each run.
func chance(t *testing.T, r *rand.Rand, size int64) *run.Employee {
	t.Helper()
	x := chanceTable(r, size)
	y, e := period.New(1+r.Intn(4), api.Date{Year: 2023, Month: 4, Day: 6})
	must(t, e)
	p, e := run.New(x, y, chanceCode(r, x, size))
	must(t, e)
	for range r.Intn(6) {
		p.Pay(chanceElements(r, x, size)...)
		p.Run()
		if r.Intn(3) == 0 {
			p.Replace(1+r.Intn(6), chanceElements(r, x, size)...)
		}
		if r.Intn(4) == 0 {
			must(t, p.Code(chanceCode(r, x, size)))
		}
	}
	p.Pay(chanceElements(r, x, size)...)
	return p
}

// sizes: of corners and amounts.
var sizes = []int64{1, 10, 300, 20000, 5_000_000, 2_000_000_000, 30_000_000_000}

// looks: the amounts at which an envelope is looked at: near where a piece begins, and some by chance.
func looks(r *rand.Rand, w *window.Envelope, size int64) []int64 {
	all := []int64{0, 1, 2, 3, top - 1, top}
	for _, l := range slices.Concat(w.Net, w.Tax) {
		for h := l.From - 2; h <= l.From+2; h++ {
			if h >= 0 && h <= top {
				all = append(all, h)
			}
		}
	}
	for range 6 {
		all = append(all, r.Int63n(top+1), r.Int63n(min(8*size, top)), r.Int63n(min(30*size, top)))
	}
	return all
}

// state: all that an employee tells.
func state(p *run.Employee) string {
	return fmt.Sprint(p.Period(), p.Orders(), p.Inputs(), p.Next(), p.Posted().Slips(), p.Posted().Totals(), p.Table(), p.Year(), p.TaxCode(), p.Protected())
}

// The document's example: of 400, 280 are kept, exactly; below 398 none reaches 280, from 402 on each does.
func TestExample(t *testing.T) {
	for _, rounds := range []string{"down", "up", "halfup"} {
		p := hired(t, example(t, rounds), "0L")
		w := envelope(t, p)
		if y, e := w.Exact(400); y != 280*full || e != api.OK {
			t.Errorf("Exact(400): %d %v", y, e)
		}
		low, high, ok := w.Bounds(280)
		if low != 398 || high != 402 || !ok {
			t.Errorf("Bounds(280): %d %d %v", low, high, ok)
		}
		if w.Components != 2 || !w.Keeps() || w.Asked() != 3 {
			t.Errorf("Components %d, Keeps %v, Asked %d", w.Components, w.Keeps(), w.Asked())
		}
		if got := piece.Text(w.Net); got != "0 0 7000,500 3500000 8000" {
			t.Errorf("Net: %s", got)
		}
		if got := piece.Text(w.Tax); got != "0 0 2000" {
			t.Errorf("Tax: %s", got)
		}
	}
}

// P26.1: the errors, and that there is no envelope beside them: no employee, the year over, too much at 0, too much at the most.
func TestOfRefuses(t *testing.T) {
	if w, e := window.Of(nil); w != nil || e != api.ErrMissing {
		t.Errorf("Of none: %v %v", w, e)
	}
	x := example(t, "down")
	over := hired(t, x, "0L")
	for range 12 {
		_, e := over.Run()
		must(t, e)
	}
	much, most, edge := hired(t, x, "0L"), hired(t, x, "0L"), hired(t, x, "0L")
	must(t, most.Pay(of("cash", money-top), of("cash", 1)), edge.Pay(of("cash", money-top)))
	must(t, much.Pay(of("back", money)))
	_, e := much.Run()
	must(t, e)
	must(t, much.Pay(of("back", 1)))
	// What is left is beyond the most below 0 where nothing more is paid, and only there.
	deep := hired(t, x, "0L")
	must(t, deep.Pay(of("back", money), of("tip", 10)))
	if _, e := deep.Try(1); e != api.OK {
		t.Errorf("a coin more: %v", e)
	}
	for name, c := range map[string]struct {
		p    *run.Employee
		want api.Errno
	}{
		"over": {over, api.ErrClosed}, "too much at 0": {much, api.ErrOverflow}, "too deep at 0": {deep, api.ErrOverflow}, "too much at the most": {most, api.ErrOverflow},
	} {
		before := state(c.p)
		if w, e := window.Of(c.p); w != nil || e != c.want {
			t.Errorf("%s: Of: %v %v, not %v", name, w, e, c.want)
		}
		if state(c.p) != before {
			t.Errorf("%s: Of changes the employee", name)
		}
	}
	if _, e := most.Try(top - 1); e != api.OK {
		t.Errorf("less than the most: %v", e)
	}
	if w, e := window.Of(edge); w == nil || e != api.OK {
		t.Errorf("up to the most: %v %v", w, e)
	}
}

// P26.1, P26.2, P26.3, P26.5: by chance: the exact net pay and the tax of each amount, what is kept of each coin more, and how far the rounded net pay is.
func TestOf(t *testing.T) {
	r := rand.New(rand.NewSource(1))
	refused, longest := 0, 0
	for i := range 3000 {
		size := sizes[i%len(sizes)]
		p := chance(t, r, size)
		before := state(p)
		w, e := window.Of(p)
		if state(p) != before {
			t.Fatalf("Of changes %s", before)
		}
		_, zero := p.Try(0)
		_, most := p.Try(top)
		if zero == api.OK {
			zero = most
		}
		if e != zero || (w == nil) != (e != api.OK) {
			t.Fatalf("Of: %v %v, not %v", w, e, zero)
		}
		if e != api.OK {
			refused++
			continue
		}
		if piece.Check(w.Net) != api.OK || piece.Check(w.Tax) != api.OK || len(w.Net) > pieces || len(w.Tax) > pieces {
			t.Fatalf("Net %v, Tax %v of %s", w.Net, w.Tax, before)
		}
		longest = max(longest, len(w.Net))
		if w.Components != keep.Components(p.Table()) || !w.Keeps() || w.Asked() != 0 {
			t.Fatalf("Components %d, Keeps %v, Asked %d of %s", w.Components, w.Keeps(), w.Asked(), before)
		}
		asked := 0
		for _, h := range looks(r, w, size) {
			compare(t, p, w, h)
			asked++
			if h < top {
				here, _ := w.Net.At(h)
				next, _ := w.Net.At(h + 1)
				if more := next - here; more < 500 || more > full {
					t.Fatalf("%d parts more at %d of %s", more, h, before)
				}
			}
		}
		if w.Asked() != asked {
			t.Fatalf("Asked: %d, not %d", w.Asked(), asked)
		}
	}
	if refused > 1200 || longest < 20 {
		t.Errorf("%d refused, at most %d pieces", refused, longest)
	}
}

// compare holds an envelope against the model, and against the rounded net pay, at an amount.
func compare(t *testing.T, p *run.Employee, w *window.Envelope, h int64) {
	t.Helper()
	net, held := model(t, p, h)
	if y, e := w.Exact(h); int64(y) != net || e != api.OK {
		t.Fatalf("Exact(%d): %d %v, not %d, of %s", h, y, e, net, state(p))
	}
	if y, e := w.Tax.At(h); int64(y) != held || e != api.OK {
		t.Fatalf("Tax at %d: %d %v, not %d, of %s", h, y, e, held, state(p))
	}
	s, e := p.Try(h)
	if away := s.Net*full - net; e != api.OK || away >= int64(w.Components*full) || away <= -int64(w.Components*full) {
		t.Fatalf("the net pay of %d is %d %v, exactly %d, of %s", h, s.Net, e, net, state(p))
	}
}

// fell: an employee who was paid 10.00, which was wrong: they should have been paid nothing.
func fell(t *testing.T, p *run.Employee) {
	t.Helper()
	paid(t, p, of("salary", 1000))
	must(t, p.Replace(1))
}

// paid: the next period is paid, of elements more.
func paid(t *testing.T, p *run.Employee, list ...api.Element) {
	t.Helper()
	must(t, p.Pay(list...))
	_, e := p.Run()
	must(t, e)
}

// P26.2: amounts at which the code, the limit, or a ceiling counts, and what was posted ahead.
func TestCorners(t *testing.T) {
	x := example(t, "down")
	capped := read(t, "limit 5000", "round up", "scheme 0.00:2000", "contrib a taxable halfup 3.00 12.00 0.00:500:0 1.00:1000:0", "contrib b social down 0.00 12.50 0.00:200:0", "kind salary + + +", "kind car 0 + 0", "kind tip 0 0 +")
	falling := read(t, "limit 2200", "round down", "scheme 0.00:0 12.00:6000 24.00:0 48.00:6000 60.00:1000", "kind salary + + +")
	for name, c := range map[string]struct {
		table     api.Table
		code      string
		pay       func(t *testing.T, p *run.Employee)
		net, held string
	}{
		"nothing is free":          {x, "0L", nil, "0 0 7000,500 3500000 8000", "0 0 2000"},
		"some is free":             {x, "12L", nil, "0 0 9000,500 4500000 10000,1000 9500000 8000", "0 0 0,1000 0 2000"},
		"no tax":                   {x, "NT", nil, "0 0 9000,500 4500000 10000", "0 0 0"},
		"a flat code":              {x, "D0", nil, "0 0 7000,500 3500000 8000", "0 0 2000"},
		"the limit of what is put": {x, "K12", nil, "0 0 500,308 156000 7000,500 1500000 8000", "0 0 8500,308 2616000 2000"},
		"the limit of a flat code": {falling, "D1", nil, "0 0 7800", "0 0 2200"},
		"the limit of bands that fall": {falling, "0L", nil,
			"0 0 10000,100 1000000 4000,158 1232400 7800,273 2130000 10000,400 3400000 4000,474 3697200 7800,584 4556000 9000",
			"0 0 0,100 0 6000,158 347600 2200,273 600000 0,400 600000 6000,474 1042800 2200,584 1284000 1000"},
		"cash below nothing": {x, "0L", func(t *testing.T, p *run.Employee) { must(t, p.Pay(of("back", 300))) },
			"0 -3000000 9000,300 -300000 500,393 -249000 7000,500 500000 8000", "0 0 0,300 0 8500,393 786000 2000"},
		"bases below nothing": {x, "0L", func(t *testing.T, p *run.Employee) { must(t, p.Pay(of("less", 600))) },
			"0 -6000000 10000,600 0 7000,1100 3500000 8000", "0 0 0,600 0 2000"},
		"paid back": {x, "0L", fell, "0 -7500000 7000,500 -4000000 8000", "0 -2000000 2000"},
		"alone nothing is paid back": {x, "0LX", fell,
			"0 -9500000 9000,500 -5000000 10000,1000 0 8000", "0 0 0,1000 0 2000"},
		"alone, what was due is no more": {x, "0LX", func(t *testing.T, p *run.Employee) { paid(t, p, of("salary", 1000)) },
			"0 0 7000,500 3500000 8000", "0 0 2000"},
		"alone, free each period": {x, "12LX", func(t *testing.T, p *run.Employee) { paid(t, p, of("salary", 500)) },
			"0 0 9000,500 4500000 10000,1000 9500000 8000", "0 0 0,1000 0 2000"},
		"free in the year so far": {x, "12L", func(t *testing.T, p *run.Employee) { paid(t, p, of("salary", 500)) },
			"0 0 9000,500 4500000 10000,1500 14500000 8000", "0 0 0,1500 0 2000"},
		"under the period's ceiling": {capped, "NT", nil,
			"0 0 9300,100 930000 8800,300 2690000 9800,1250 12000000 10000", "0 0 0"},
		"under the year's ceiling": {capped, "NT", func(t *testing.T, p *run.Employee) {
			for _, x := range []int64{350, 350, 350, 150} {
				paid(t, p, of("salary", x))
			}
		}, "0 0 9300,50 465000 9500,100 940000 9000,150 1390000 10000", "0 0 0"},
		"of another base": {capped, "0L", func(t *testing.T, p *run.Employee) { must(t, p.Pay(of("car", 150), of("tip", 50))) },
			"0 -110000 3800,100 270000 6800,150 610000 7800,1200 8800000 8000", "0 0 5000,100 500000 2000"},
	} {
		p := hired(t, c.table, c.code)
		if c.pay != nil {
			c.pay(t, p)
		}
		w := envelope(t, p)
		if c.net != "x" && !sameText(t, w.Net, c.net) {
			t.Errorf("%s: Net: %s, not %s", name, piece.Text(w.Net), c.net)
		}
		if c.held != "x" && !sameText(t, w.Tax, c.held) {
			t.Errorf("%s: Tax: %s, not %s", name, piece.Text(w.Tax), c.held)
		}
		for h := range int64(1500) {
			compare(t, p, w, h)
		}
	}
}

// sameText: is a function that of a text?
func sameText(t *testing.T, f piece.Func, text string) bool {
	t.Helper()
	g, e := piece.Parse(text)
	must(t, e)
	return piece.Same(f, g)
}

// P26.2, P26.5, P2: amounts that aren't from 0 to the most; what is refused isn't counted.
func TestExactRefuses(t *testing.T) {
	w := envelope(t, hired(t, example(t, "down"), "0L"))
	asked := 0
	for _, h := range edges {
		y, e := w.Exact(h)
		if h >= 0 && h <= top {
			if asked++; y != frac.Exact(8000*h-1000*min(h, 500)) || e != api.OK {
				t.Errorf("Exact(%d): %d %v", h, y, e)
			}
		} else if y != 0 || e != api.ErrRange {
			t.Errorf("Exact(%d): %d %v", h, y, e)
		}
		if w.Asked() != asked {
			t.Errorf("Asked: %d, not %d", w.Asked(), asked)
		}
	}
}

// upto: how many pieces of a function there are up to that in which an amount is.
func upto(f piece.Func, h int64) int {
	n := 0
	for _, l := range f {
		if l.From <= h {
			n++
		}
	}
	return n
}

// P26.4, P26.5: both bounds are the least amounts of which that is so, and hold the rounded net pay; how many pieces were looked at.
func TestBounds(t *testing.T) {
	r := rand.New(rand.NewSource(2))
	found, none, above := 0, 0, 0
	for i := range 1500 {
		size := sizes[i%len(sizes)]
		p := chance(t, r, size)
		w, e := window.Of(p)
		if e != api.OK {
			continue
		}
		var nets []int64
		for _, h := range append(looks(r, w, size), top) {
			y, _ := w.Net.At(h)
			nets = append(nets, int64(y)/full+r.Int63n(17)-8)
		}
		for _, net := range append(nets, edges...) {
			asked := w.Asked()
			low, high, ok := w.Bounds(net)
			looked := w.Asked() - asked
			// Beyond the most by whichever sign it is as one beyond it.
			clipped, away := min(max(net, -money-1), money+1), int64(w.Components)
			over, enough := (clipped-away)*full, (clipped-1+away)*full
			last := at(w, top)
			if ok != (last > over) {
				t.Fatalf("Bounds(%d): %d %d %v of %s", net, low, high, ok, state(p))
			}
			if !ok {
				if none++; low != 0 || high != 0 || looked != len(w.Net) {
					t.Fatalf("Bounds(%d): %d %d, looked %d", net, low, high, looked)
				}
				continue
			}
			found++
			if at(w, low) <= over || low > 0 && at(w, low-1) > over {
				t.Fatalf("Bounds(%d): the lower one is %d of %s", net, low, state(p))
			}
			want := upto(w.Net, low) + upto(w.Net, high)
			if last < enough {
				above++
				if want = upto(w.Net, low) + len(w.Net); high != top {
					t.Fatalf("Bounds(%d): the upper one is %d", net, high)
				}
			} else if at(w, high) < enough || high > 0 && at(w, high-1) >= enough {
				t.Fatalf("Bounds(%d): the upper one is %d of %s", net, high, state(p))
			}
			if looked != want || high < low || high-low >= int64(keep.Window(p.Table())) {
				t.Fatalf("Bounds(%d): %d %d, looked %d, not %d", net, low, high, looked, want)
			}
		}
	}
	if found < 10000 || none < 1000 || above < 100 {
		t.Errorf("found %d, none %d, none above %d", found, none, above)
	}
}

// at: the exact net pay of an amount, in parts, without asking for it.
func at(w *window.Envelope, h int64) int64 {
	y, _ := w.Net.At(h)
	return int64(y)
}

// P26.4: below the lower bound none reaches a net pay, rounded; from the upper one on each does.
func TestBoundsHold(t *testing.T) {
	r := rand.New(rand.NewSource(3))
	for i := range 400 {
		size := sizes[i%len(sizes)]
		p := chance(t, r, size)
		w, e := window.Of(p)
		if e != api.OK {
			continue
		}
		for range 3 {
			net := at(w, r.Int63n(min(20*size, top)))/full + r.Int63n(9) - 4
			low, high, ok := w.Bounds(net)
			if !ok {
				continue
			}
			for h := max(low-40, 0); h < low; h++ {
				if s, e := p.Try(h); e != api.OK || s.Net >= net {
					t.Fatalf("%d is reached by %d, below %d: %v, of %s", net, h, low, e, state(p))
				}
			}
			for h := high; h <= min(high+40, top); h++ {
				if s, e := p.Try(h); e != api.OK || s.Net < net && at(w, top) >= (net-1+int64(w.Components))*full {
					t.Fatalf("%d isn't reached by %d, above %d: %v, of %s", net, h, high, e, state(p))
				}
			}
		}
	}
}

// P26.3: an envelope of other functions doesn't keep enough: less than a twentieth of a coin, or less at some amount.
func TestKeeps(t *testing.T) {
	for text, want := range map[string]bool{
		"0 0 500": true, "0 0 499": false, "0 0 0": false, "0 0 -1": false, "0 0 10000": true, "0 0 10000,5 50000 500": true, "0 0 10000,5 50000 499": false,
		"0 0 499,5 50000 500": false, "0 0 0,1 5 500": true, "0 0 10000,5 39999 500": false, "0 0 10000,5 40000 500": true, "0 0 500,10000000000 9000000000000 0": true,
		"0 0 500,10000000000 4999999999499 500": false,
	} {
		f, e := piece.Parse(text)
		must(t, e)
		w := envelope(t, hired(t, example(t, "down"), "0L"))
		w.Net = f
		if w.Keeps() != want {
			t.Errorf("Keeps of %s: %v", text, !want)
		}
	}
	// A table of which just a twentieth is kept.
	for _, x := range []api.Table{
		read(t, "limit 9500", "round up", "scheme 0.00:9500", "kind salary + + +"),
		read(t, "limit 5000", "round up", "scheme 0.00:5000", "contrib a social up 0.00 0.00 0.00:4500:0", "kind salary + + +"),
		read(t, "limit 0", "round up", "scheme 0.00:0", "contrib a social up 0.00 0.00 0.00:9500:0", "kind salary + + +"),
	} {
		w := envelope(t, hired(t, x, "0L"))
		if !w.Keeps() || piece.Text(w.Net) != "0 0 500" {
			t.Errorf("%v: Keeps %v, Net %s", x, w.Keeps(), piece.Text(w.Net))
		}
	}
}

// P26.2: at the most that may be in all.
func TestGreat(t *testing.T) {
	x := read(t, "limit 4000", "round halfeven", "scheme 0.00:0 "+"900000000.00:4000", "contrib a taxable up 0.00 0.00 0.00:2500:5000", "contrib b social down 0.00 999999999.99 0.00:3000:5000", "kind salary + + +", "kind back - 0 0")
	for _, pay := range []int64{money - top, money - top - 1, money / 2} {
		for _, text := range []string{"0L", "NT", "999999L", "0LX", "999999LX", "D1", "D1X"} {
			p := hired(t, x, text)
			must(t, p.Pay(of("salary", pay)))
			w := envelope(t, p)
			for _, h := range looks(rand.New(rand.NewSource(4)), w, top) {
				compare(t, p, w, h)
			}
		}
	}
	// As much was posted, and is no more: all of it is paid back, beside as much less in cash.
	p := hired(t, x, "0L")
	paid(t, p, of("salary", money-top))
	must(t, p.Replace(1))
	w := envelope(t, p)
	for _, h := range looks(rand.New(rand.NewSource(5)), w, top) {
		compare(t, p, w, h)
	}
	least := hired(t, x, "0L")
	must(t, least.Pay(of("back", money)))
	w = envelope(t, least)
	for _, h := range looks(rand.New(rand.NewSource(6)), w, top) {
		compare(t, least, w, h)
	}
}

// P26.2: a corner at the most that may be taxable, which the most that is paid more just reaches.
func TestCornerAtTheMost(t *testing.T) {
	p := hired(t, read(t, "limit 5000", "round down", "scheme 0.00:2000 1000000000.00:4000", "kind salary + + +"), "0L")
	for range 11 {
		paid(t, p)
	}
	must(t, p.Pay(of("salary", money-top)))
	w := envelope(t, p)
	if !sameText(t, w.Net, "0 720000000000000 8000") {
		t.Errorf("Net: %s", piece.Text(w.Net))
	}
	for _, h := range []int64{0, 1, top - 1, top} {
		compare(t, p, w, h)
	}
}

// P26.4: a net pay beyond the most counts as one beyond it, by whichever sign.
func TestBoundsBeyond(t *testing.T) {
	rich := hired(t, read(t, "limit 0", "round down", "scheme 0.00:0", "kind salary + + +"), "NT")
	must(t, rich.Pay(of("salary", money-top)))
	poor := hired(t, example(t, "down"), "NT")
	must(t, poor.Pay(of("back", money)))
	for _, c := range []struct {
		p         *run.Employee
		net       int64
		low, high int64
		ok        bool
	}{
		{rich, money - 1, top - 1, top - 1, true}, {rich, money, top, top, true}, {rich, money + 1, 0, 0, false}, {rich, money + 2, 0, 0, false}, {rich, math.MaxInt64, 0, 0, false},
		{rich, math.MinInt64, 0, 0, true}, {poor, math.MaxInt64, 0, 0, false},
		{poor, -money + 1, 0, 3, true}, {poor, -money, 0, 2, true}, {poor, -money - 1, 0, 0, true}, {poor, -money - 2, 0, 0, true}, {poor, math.MinInt64, 0, 0, true},
	} {
		if low, high, ok := envelope(t, c.p).Bounds(c.net); low != c.low || high != c.high || ok != c.ok {
			t.Errorf("Bounds(%d): %d %d %v", c.net, low, high, ok)
		}
	}
}

// P2: an employee isn't kept: what becomes of them later doesn't change an envelope; and envelopes share nothing.
func TestMemory(t *testing.T) {
	p := hired(t, example(t, "down"), "12L")
	must(t, p.Pay(of("salary", 100)))
	one, two := envelope(t, p), envelope(t, p)
	want := piece.Text(one.Net) + " " + piece.Text(one.Tax)
	must(t, p.Pay(of("salary", 100)), p.Code(coded(t, "NT")))
	_, e := p.Run()
	must(t, e)
	for _, f := range []piece.Func{two.Net, two.Tax} {
		f = f[:cap(f)]
		for i := range f {
			f[i] = piece.Line{From: -77, Value: -77, Rate: -77}
		}
	}
	two.Exact(5)
	two.Bounds(5)
	if got := piece.Text(one.Net) + " " + piece.Text(one.Tax); got != want || one.Asked() != 0 {
		t.Errorf("%s, then %s; asked %d", want, got, one.Asked())
	}
	spare := one.Tax[:cap(one.Tax)]
	for i := range spare {
		spare[i] = piece.Line{From: -77, Value: -77, Rate: -77}
	}
	if got := piece.Text(one.Net); want[:len(got)] != got || got == "" {
		t.Errorf("both functions of an envelope share: %s", got)
	}
}

// P1: no call panics, whatever it is given, and each answers the same again.
func TestEnds(t *testing.T) {
	r := rand.New(rand.NewSource(7))
	for i := range 200 {
		p := chance(t, r, sizes[i%len(sizes)])
		one, e := window.Of(p)
		two, d := window.Of(p)
		if e != d || (one == nil) != (two == nil) {
			t.Fatalf("Of: %v, then %v", e, d)
		}
		if e != api.OK {
			continue
		}
		for _, x := range edges {
			all := func(w *window.Envelope) string {
				y, e := w.Exact(x)
				low, high, ok := w.Bounds(x)
				if e != api.OK && y != 0 || !ok && (low != 0 || high != 0) {
					t.Errorf("%d: %d %v, %d %d %v", x, y, e, low, high, ok)
				}
				return fmt.Sprint(y, e, low, high, ok, w.Asked(), w.Keeps(), w.Components)
			}
			if a, b := all(one), all(two); a != b {
				t.Errorf("%d: %s, then %s", x, a, b)
			}
		}
	}
}
