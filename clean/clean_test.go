package clean_test

import (
	"fmt"
	"math"
	"math/rand"
	"reflect"
	"slices"
	"testing"

	"stipend/api"
	"stipend/clean"
	"stipend/code"
	"stipend/element"
	"stipend/period"
	"stipend/retro"
	"stipend/run"
	"stipend/table"
	"stipend/year"
)

const top = 100_000_000_000 // as the document tells it

var kinds = []string{"kind salary + + +", "kind car 0 + 0", "kind saved - - 0", "kind cash + 0 0", "kind tip 0 0 +", "kind back - 0 0"}

// read: the table of lines, with all kinds.
func read(t *testing.T, lines ...string) api.Table {
	t.Helper()
	x, n, e := table.Read(append(lines, kinds...)...)
	if e != api.OK {
		t.Fatalf("line %d: %v", n, e)
	}
	return x
}

// plain: a fifth of tax, no more than a tenth of the cash, and a tenth of contributions.
func plain(t *testing.T) api.Table {
	t.Helper()
	return read(t, "limit 1000", "round down", "scheme 0.00:2000", "contrib care social down 0.00 0.00 0.00:1000:2000")
}

// tables: some of all kinds that are accepted.
func tables(t *testing.T) []api.Table {
	t.Helper()
	return []api.Table{
		plain(t),
		read(t, "limit 5000", "round halfup", "scheme 0.00:0 100.00:2000 300.00:4000", "contrib care social halfup 0.00 2500.00 0.00:500:700", "contrib fund taxable up 400.00 0.00 0.00:0:100 50.00:1000:333"),
		read(t, "limit 3333", "round halfeven", "scheme 0.00:1999 500.00:3001", "scheme 0.00:4501", "contrib care taxable halfdown 100.00 300.00 0.00:1:2 1.00:777:3"),
		read(t, "limit 8000", "round up", "scheme 0.00:100 10.00:0 20.00:5000"),
		read(t, "limit 100", "round inward", "scheme 0.00:2000", "scheme 0.00:10 0.05:20 0.07:30", "contrib a social down 0.00 0.00 0.00:100:0", "contrib b social up 5.00 6.00 0.00:101:1"),
	}
}

// coded: the code of a text.
func coded(t *testing.T, text string) api.Code {
	t.Helper()
	c, e := code.Parse(text)
	if e != api.OK {
		t.Fatalf("%s: %v", text, e)
	}
	return c
}

// begun: a tax year.
func begun(t *testing.T, freq int) *period.Year {
	t.Helper()
	y, e := period.New(freq, api.Date{Year: 2023, Month: 4, Day: 6})
	must(t, e)
	return y
}

// desk: a desk of an employee of a table, without anything free, of whom nothing was paid.
func desk(t *testing.T, x api.Table, freq int) *retro.Desk {
	t.Helper()
	p, e := run.New(x, begun(t, freq), coded(t, "0L"))
	must(t, e)
	d, e := retro.New(p)
	must(t, e)
	return d
}

// all: elements, of a kind and an amount in turn, each once.
func all(list ...any) []api.Element {
	var elements []api.Element
	for i := 0; i+1 < len(list); i += 2 {
		elements = append(elements, api.Element{Kind: list[i].(string), Amount: int64(list[i+1].(int)), Units: element.Once})
	}
	return elements
}

// inputs: some, all by one code.
func inputs(c api.Code, list ...[]api.Element) []run.Input {
	var all []run.Input
	for _, x := range list {
		all = append(all, run.Input{Code: c, Elements: x})
	}
	return all
}

// bases: these bases.
func bases(cash, taxable, social int64) api.Bases {
	return api.Bases{Cash: cash, Taxable: taxable, Social: social}
}

// same: are two answers the same, where lists of nothing are the same as none?
func same(a, b any) bool { return fmt.Sprintf("%+v", a) == fmt.Sprintf("%+v", b) }

// state: all that a desk tells.
func state(d *retro.Desk) string {
	return fmt.Sprint(d.Fixes(), d.First(), d.Period(), d.Orders(), d.Inputs(), d.Next(), d.Posted().Slips(), d.Table(), d.Year(), d.TaxCode(), d.Protected())
}

// must tells a test's fault, if there is an error.
func must(t *testing.T, list ...api.Errno) {
	t.Helper()
	for i, e := range list {
		if e != api.OK {
			t.Fatalf("call %d: %v", i, e)
		}
	}
}

// paid: the next period, run with elements more.
func paid(t *testing.T, d *retro.Desk, list ...api.Element) api.Slip {
	t.Helper()
	must(t, d.Pay(list...))
	s, e := d.Run()
	must(t, e)
	return s
}

// P24.1: an employee who is paid by inputs, one by one.
func TestPay(t *testing.T) {
	x, y := plain(t), begun(t, api.Monthly)
	list := []run.Input{{Code: coded(t, "0L"), Elements: all("salary", 1000)}, {Code: coded(t, "NT"), Elements: all("salary", 500, "tip", 10)}, {Code: coded(t, "0LX")}}
	p, e := clean.Pay(x, y, list...)
	if e != api.OK || p == nil {
		t.Fatalf("Pay: %v, %v", p, e)
	}
	want := []api.Slip{
		{Period: 1, Bases: bases(1000, 1000, 1000), Tax: 100, Shortfall: 100, Shares: []api.Share{{Employee: 100, Employer: 200}}, Net: 800, Pay: 800},
		{Period: 2, Bases: bases(500, 500, 510), Tax: -100, Shares: []api.Share{{Employee: 51, Employer: 102}}, Net: 549, Pay: 549},
		{Period: 3, Shares: []api.Share{{}}},
	}
	if got := p.Posted().Slips(); !same(got, want) {
		t.Errorf("Posted: %+v, not %+v", got, want)
	}
	if got := p.Inputs(); !same(got, list) || p.TaxCode() != coded(t, "0LX") || p.Period() != 4 || len(p.Next()) != 0 || len(p.Orders()) != 0 {
		t.Errorf("Inputs: %v, not %v", got, list)
	}
	// By no inputs, one of no tax, of whom nothing was paid.
	p, e = clean.Pay(x, y)
	if e != api.OK || p.TaxCode() != (api.Code{Kind: api.CodeNone}) || p.Period() != 1 {
		t.Errorf("Pay: %v, %v", p, e)
	}
	// A whole year is paid.
	full := slices.Repeat(inputs(coded(t, "0L"), all("salary", 7)), 12)
	if p, e = clean.Pay(x, y, full...); e != api.OK || p.Period() != 0 || p.Posted().Totals().Cash != 84 {
		t.Errorf("Pay of a year: %v", e)
	}
	if p, e := clean.Pay(x, y, append(full, run.Input{Code: api.Code{Scheme: 5, Kind: api.CodeNone}, Elements: all("none", 1)})...); p != nil || e != api.ErrClosed {
		t.Errorf("Pay of more than a year: %v, %v", p, e)
	}
}

// P24.1: the first error.
func TestPayRefuses(t *testing.T) {
	x, y := plain(t), begun(t, api.Monthly)
	no, zero := api.Code{Scheme: 1, Kind: api.CodeNone}, coded(t, "0L")
	low := plain(t)
	low.Limit = 9500
	good := run.Input{Code: zero, Elements: all("salary", 5)}
	for i, c := range []struct {
		t    api.Table
		y    *period.Year
		list []run.Input
		want api.Errno
	}{
		{low, nil, inputs(no, all("none", 1)), api.ErrKeep},
		{api.Table{}, nil, nil, api.ErrRange},
		{x, nil, inputs(no, all("none", 1)), api.ErrScheme},
		{x, nil, inputs(api.Code{}, all("none", 1)), api.ErrCode},
		{x, nil, inputs(zero, all("none", 1)), api.ErrMissing},
		{x, nil, nil, api.ErrMissing},
		{x, y, inputs(zero, all("none", 1)), api.ErrKind},
		{x, y, inputs(zero, slices.Repeat(all("none", 1), 33)), api.ErrLong},
		{x, y, []run.Input{good, {Code: no, Elements: all("none", 1)}}, api.ErrScheme},
		{x, y, []run.Input{good, {Elements: all("none", 1)}}, api.ErrCode},
		{x, y, []run.Input{good, {Code: zero, Elements: all("none", 1)}, {Code: no}}, api.ErrKind},
		{x, y, []run.Input{good, {Code: zero, Elements: all("car", top)}, {Code: no}}, api.ErrOverflow}, // when it is run
		{x, y, []run.Input{good, {Code: zero, Elements: all("car", top-5)}, {Code: no}}, api.ErrScheme},
	} {
		if p, e := clean.Pay(c.t, c.y, c.list...); p != nil || e != c.want {
			t.Errorf("%d: Pay: %v, %v, not %v", i, p, e, c.want)
		}
	}
}

// P24.2: what was due, by what was posted.
func TestOf(t *testing.T) {
	shares := []api.Share{{Employee: 5, Employer: 6}, {}}
	for _, c := range []struct {
		t    year.Totals
		want clean.Due
		e    api.Errno
	}{
		{year.Totals{}, clean.Due{}, api.OK},
		{year.Totals{Bases: bases(1, 2, 3), Tax: 40, Shortfall: 7, Shares: shares, Net: 8, Taken: 9, Pay: 10}, clean.Due{Bases: bases(1, 2, 3), Tax: 47, Shares: shares}, api.OK},
		{year.Totals{Tax: 40, Shortfall: -50}, clean.Due{Tax: -10}, api.OK},
		{year.Totals{Tax: top, Shortfall: -top}, clean.Due{}, api.OK},
		{year.Totals{Tax: top}, clean.Due{Tax: top}, api.OK},
		{year.Totals{Bases: bases(1, 1, 1), Tax: top, Shortfall: 1, Shares: shares}, clean.Due{}, api.ErrOverflow},
		{year.Totals{Tax: -top, Shortfall: -1}, clean.Due{}, api.ErrOverflow},
		{year.Totals{Tax: top + 1, Shortfall: -1}, clean.Due{}, api.ErrOverflow},
		{year.Totals{Tax: -1, Shortfall: top + 1}, clean.Due{}, api.ErrOverflow},
		{year.Totals{Tax: math.MaxInt64, Shortfall: math.MinInt64}, clean.Due{}, api.ErrOverflow},
		{year.Totals{Bases: bases(math.MaxInt64, math.MinInt64, top+1)}, clean.Due{Bases: bases(math.MaxInt64, math.MinInt64, top+1)}, api.OK},
	} {
		got, e := clean.Of(c.t)
		if e != c.e || !same(got, c.want) {
			t.Errorf("Of(%+v): %+v, %v, not %+v", c.t, got, e, c.want)
		}
	}
}

// P24.2: was the same due?
func TestSame(t *testing.T) {
	base := clean.Due{Bases: bases(1, 2, 3), Tax: 4, Shares: []api.Share{{Employee: 5, Employer: 6}}}
	twin := clean.Due{Bases: bases(1, 2, 3), Tax: 4, Shares: []api.Share{{Employee: 5, Employer: 6}}}
	if !clean.Same(base, twin) || !clean.Same(clean.Due{}, clean.Due{Shares: []api.Share{}}) || !clean.Same(clean.Due{Shares: []api.Share{}}, clean.Due{}) {
		t.Error("the same isn't the same")
	}
	for i, x := range []clean.Due{
		{Bases: bases(0, 2, 3), Tax: 4, Shares: twin.Shares}, {Bases: bases(1, 0, 3), Tax: 4, Shares: twin.Shares}, {Bases: bases(1, 2, 0), Tax: 4, Shares: twin.Shares},
		{Bases: bases(1, 2, 3), Tax: 5, Shares: twin.Shares}, {Bases: bases(1, 2, 3), Tax: 4}, {Bases: bases(1, 2, 3), Tax: 4, Shares: []api.Share{{Employee: 5, Employer: 6}, {}}},
		{Bases: bases(1, 2, 3), Tax: 4, Shares: []api.Share{{Employee: 5}}}, {Bases: bases(1, 2, 3), Tax: 4, Shares: []api.Share{{Employer: 6}}}, {},
	} {
		if clean.Same(base, x) || clean.Same(x, base) {
			t.Errorf("%d: %+v is the same", i, x)
		}
	}
}

// P24.2: the chapter's example, and what was due and would have been by the end of each period.
func TestUptoFrom(t *testing.T) {
	d := desk(t, plain(t), api.Monthly)
	paid(t, d, all("salary", 1000)...)
	must(t, d.Fix(1, all("salary", 3000)...))
	paid(t, d, all("salary", 0)...)
	must(t, d.Fix(1, all("salary", 5000)...), d.Fix(2, all("tip", 100)...))
	none := clean.Due{Shares: []api.Share{{}}}
	first := clean.Due{Bases: bases(1000, 1000, 1000), Tax: 200, Shares: []api.Share{{Employee: 100, Employer: 200}}}
	second := clean.Due{Bases: bases(3000, 3000, 3000), Tax: 600, Shares: []api.Share{{Employee: 300, Employer: 600}}}
	for k, want := range []clean.Due{none, first, second} {
		if got, e := clean.Upto(d, k); e != api.OK || !same(got, want) {
			t.Errorf("Upto(%d): %+v, %v, not %+v", k, got, e, want)
		}
		if got, e := clean.From(d, k); e != api.OK || !same(got, want) {
			t.Errorf("From(%d): %+v, %v, not %+v", k, got, e, want)
		}
	}
	// What is put in for the next period isn't paid yet.
	must(t, d.Pay(all("salary", 77)...))
	if got, e := clean.From(d, 2); e != api.OK || !same(got, second) {
		t.Errorf("From(2): %+v, %v", got, e)
	}
	for _, k := range []int{math.MinInt, -1, 3, 12, math.MaxInt} {
		if got, e := clean.Upto(d, k); e != api.ErrMissing || !reflect.DeepEqual(got, clean.Due{}) {
			t.Errorf("Upto(%d): %+v, %v", k, got, e)
		}
		if got, e := clean.From(d, k); e != api.ErrAhead || !reflect.DeepEqual(got, clean.Due{}) {
			t.Errorf("From(%d): %+v, %v", k, got, e)
		}
		if got, e := clean.Late(d, k); e != api.ErrMissing || got != 0 {
			t.Errorf("Late(%d): %d, %v", k, got, e)
		}
	}
}

// P24.2, P24.4: by what As tells of it more is due than the most: what was posted by the end of the period came to be otherwise.
func TestFromRefuses(t *testing.T) {
	p, e := run.New(plain(t), begun(t, api.Monthly), coded(t, "NT"))
	must(t, e)
	d, e := retro.New(p)
	must(t, e)
	paid(t, d, all("car", top)...)
	// Corrected past the desk, of which that tells nothing.
	must(t, p.Replace(1))
	paid(t, d, all("car", 1)...)
	was := state(d)
	if got, e := clean.From(d, 2); e != api.ErrOverflow || !reflect.DeepEqual(got, clean.Due{}) {
		t.Errorf("From: %+v, %v", got, e)
	}
	if got, e := clean.Late(d, 2); e != api.ErrOverflow || got != 0 {
		t.Errorf("Late: %d, %v", got, e)
	}
	if k, e := clean.Check(d); k != 2 || e != api.ErrOverflow {
		t.Errorf("Check: %d, %v", k, e)
	}
	if state(d) != was {
		t.Error("refused, a call changed something")
	}
}

// P24.3: the first period of which what was due isn't what would have been.
func TestCheck(t *testing.T) {
	d := desk(t, plain(t), api.Monthly)
	check := func(want int) {
		t.Helper()
		if k, e := clean.Check(d); k != want || e != api.OK {
			t.Errorf("Check: %d, %v, not %d", k, e, want)
		}
	}
	check(0)
	for i := range 3 {
		paid(t, d, all("salary", 1000*(i+1))...)
		check(0)
		must(t, d.Fix(1, all("salary", 4000*i)...))
		check(0)
	}
	// A correction past the desk isn't among those that are kept: then what would have been is otherwise.
	must(t, d.Employee.Replace(2, all("tip", 10)...))
	check(0)
	paid(t, d)
	check(4)
	paid(t, d)
	check(4)
	// Of who was corrected ahead of the desk, what the periods are paid by then counts as what they were run by.
	d, e := retro.New(d.Employee)
	must(t, e)
	check(1)
}

// P24.4: by how much less tax was withheld by the end of a period.
func TestLate(t *testing.T) {
	d := desk(t, plain(t), api.Monthly)
	late := func(k int, want int64) {
		t.Helper()
		if got, e := clean.Late(d, k); e != api.OK || got != want {
			t.Errorf("Late(%d): %d, %v, not %d", k, got, e, want)
		}
	}
	late(0, 0)
	paid(t, d, all("salary", 1000)...) // of 200, 100 are withheld
	late(1, 0)
	must(t, d.Fix(1, all("salary", 1000, "car", 1000)...)) // of 400, 100 would be, too
	paid(t, d, all("salary", 1000)...)                     // of 600 that are due, 200 are withheld
	late(1, 0)
	late(2, 0)
	must(t, d.Fix(1)) // the 100 wouldn't have been withheld
	paid(t, d, all("salary", 2000)...)
	// Of 1000, then 1000 less, and 2000: withheld were 100, 100 and 100 of the 1000 more in cash; from the first it would be 0, 100 and 200.
	late(3, 0)
	must(t, d.Fix(1, all("car", 2000)...), d.Fix(3, all("salary", 4000)...))
	paid(t, d)
	// 2000 of cash more: 200 more were withheld; from the first it would be 0, 100 and 400 of what is due.
	late(4, 0)
	late(1, 0)
	must(t, d.Fix(2, all("salary", 3000, "back", 3000)...))
	paid(t, d, all("cash", 500)...)
	// Only -500 in cash: nothing is withheld of it, what is due is 1800; from the first 0, 0, 400, 0 and 50 would be.
	late(5, -50)
}

// P24.5: what was carried behind each period, and by how much what is due by its end differs by now.
func TestGaps(t *testing.T) {
	d := desk(t, plain(t), api.Monthly)
	gaps := func(want ...clean.Gap) {
		t.Helper()
		if got, e := clean.Gaps(d); e != api.OK || !slices.Equal(got, want) {
			t.Errorf("Gaps: %v, %v, not %v", got, e, want)
		}
	}
	gaps()
	paid(t, d, all("salary", 1000)...)
	gaps(clean.Gap{Period: 1, Short: 100})
	must(t, d.Fix(1, all("salary", 3000)...))
	gaps(clean.Gap{Period: 1, Short: 100, Moved: 400})
	paid(t, d, all("salary", 0)...)
	gaps(clean.Gap{Period: 1, Short: 100, Moved: 400}, clean.Gap{Period: 2, Short: 300})
	must(t, d.Fix(2, all("salary", 2000)...), d.Pay(all("salary", 9)...))
	gaps(clean.Gap{Period: 1, Short: 100, Moved: 400}, clean.Gap{Period: 2, Short: 300, Moved: 400})
	must(t, d.Fix(1))
	gaps(clean.Gap{Period: 1, Short: 100, Moved: -200}, clean.Gap{Period: 2, Short: 300, Moved: -200})
	must(t, d.Code(coded(t, "NT")))
	paid(t, d)
	gaps(clean.Gap{Period: 1, Short: 100, Moved: -200}, clean.Gap{Period: 2, Short: 300, Moved: -200}, clean.Gap{Period: 3})
}

// chance: elements by chance.
func chance(r *rand.Rand, x api.Table) []api.Element {
	var list []api.Element
	for range r.Intn(4) {
		e := api.Element{Kind: x.Kinds[r.Intn(len(x.Kinds))].Name, Amount: r.Int63n(20_000) - 4000, Units: element.Once}
		if r.Intn(3) == 0 {
			e.Units = r.Int63n(300)
		}
		list = append(list, e)
	}
	return list
}

// worked: a desk of an employee who was paid and corrected by chance.
func worked(t *testing.T, r *rand.Rand, x api.Table) *retro.Desk {
	t.Helper()
	d := desk(t, x, 1+r.Intn(4))
	for range r.Intn(30) {
		if d.Period() == 0 {
			break
		}
		switch r.Intn(4) {
		case 0:
			must(t, d.Code(coded(t, []string{"0L", "12L", "12LX", "K12", "D0", "NT", "NTX"}[r.Intn(7)])))
		case 1:
			if n := d.Posted().Count(); n > 0 {
				must(t, d.Fix(1+r.Intn(n), chance(r, x)...))
			}
		default:
			paid(t, d, chance(r, x)...)
		}
	}
	return d
}

// from: an employee who is paid by inputs, step by step.
func from(t *testing.T, d *retro.Desk, list []run.Input) *run.Employee {
	t.Helper()
	p, e := run.New(d.Table(), d.Year(), api.Code{Kind: api.CodeNone})
	must(t, e)
	for _, x := range list {
		must(t, p.Code(x.Code), p.Pay(x.Elements...))
		_, e := p.Run()
		must(t, e)
	}
	return p
}

// P24.1 to P24.5: desks of all kinds, against employees who are paid from the first.
func TestMany(t *testing.T) {
	r := rand.New(rand.NewSource(24))
	for round := range 120 {
		d := worked(t, r, tables(t)[round%5])
		was := state(d)
		if k, e := clean.Check(d); k != 0 || e != api.OK {
			t.Fatalf("Check: %d, %v", k, e)
		}
		var want []clean.Gap
		for k := range d.Posted().Count() + 1 {
			list, e := d.As(k)
			must(t, e)
			p := from(t, d, list)
			would, posted := p.Posted().Totals(), upto(t, d, k)
			due := clean.Due{Bases: would.Bases, Tax: would.Tax + would.Shortfall, Shares: would.Shares}
			if got, e := clean.From(d, k); e != api.OK || !same(got, due) {
				t.Fatalf("From(%d): %+v, %v, not %+v", k, got, e, due)
			}
			if got, e := clean.Upto(d, k); e != api.OK || !same(got, due) {
				t.Fatalf("Upto(%d): %+v, %v, not %+v", k, got, e, due)
			}
			if got, e := clean.Late(d, k); e != api.OK || got != would.Tax-posted.Tax {
				t.Fatalf("Late(%d): %d, %v, not %d", k, got, e, would.Tax-posted.Tax)
			}
			if got, e := clean.Pay(d.Table(), d.Year(), list...); e != api.OK || !same(got.Posted().Slips(), p.Posted().Slips()) || !same(got.Inputs(), p.Inputs()) {
				t.Fatalf("Pay: %v", e)
			}
			if k > 0 {
				now := from(t, d, d.Inputs()[:k]).Posted().Totals()
				want = append(want, clean.Gap{Period: k, Short: posted.Shortfall, Moved: now.Tax + now.Shortfall - posted.Tax - posted.Shortfall})
			}
		}
		if got, e := clean.Gaps(d); e != api.OK || !slices.Equal(got, want) {
			t.Fatalf("Gaps: %v, %v, not %v", got, e, want)
		}
		if state(d) != was {
			t.Fatal("a call changed something")
		}
	}
}

// upto: what was posted by the end of a period.
func upto(t *testing.T, d *retro.Desk, k int) year.Totals {
	t.Helper()
	x, e := d.Posted().Upto(k)
	must(t, e)
	return x
}

// P2: nothing that is handed in is changed or kept, and answers are of their own.
func TestMemory(t *testing.T) {
	totals := year.Totals{Bases: bases(1, 2, 3), Tax: 4, Shares: []api.Share{{Employee: 5, Employer: 6}}}
	got, e := clean.Of(totals)
	must(t, e)
	again, _ := clean.Of(totals)
	clear(again.Shares[:cap(again.Shares)])
	if totals.Shares[0].Employee != 5 || got.Shares[0].Employee != 5 {
		t.Error("answers share memory")
	}
	clear(totals.Shares)
	if got.Shares[0].Employee != 5 {
		t.Error("an answer shares memory with what was handed in")
	}
	x, y := plain(t), begun(t, api.Monthly)
	list := inputs(coded(t, "0L"), all("salary", 1000), all("car", 5))
	was := fmt.Sprint(x, list)
	p, e := clean.Pay(x, y, list...)
	must(t, e)
	if fmt.Sprint(x, list) != was {
		t.Error("Pay changed what was handed in")
	}
	told := fmt.Sprint(p.Inputs(), p.Table(), p.Year().Count())
	for _, one := range list {
		clear(one.Elements)
	}
	clear(list)
	clear(x.Schemes[0])
	clear(x.Contribs)
	clear(x.Kinds)
	*y = *begun(t, api.Weekly)
	if fmt.Sprint(p.Inputs(), p.Table(), p.Year().Count()) != told {
		t.Error("what was handed in is kept")
	}
	d := worked(t, rand.New(rand.NewSource(3)), plain(t))
	kept := state(d)
	for k := range d.Posted().Count() + 1 {
		a, e := clean.Upto(d, k)
		must(t, e)
		b, e := clean.From(d, k)
		must(t, e)
		clear(a.Shares[:cap(a.Shares)])
		clear(b.Shares[:cap(b.Shares)])
	}
	gaps, e := clean.Gaps(d)
	must(t, e)
	clear(gaps[:cap(gaps)])
	if k, e := clean.Check(d); k != 0 || e != api.OK || state(d) != kept {
		t.Error("an answer shares memory with what is kept")
	}
}

// P1: no call panics, whatever it is given.
func TestEnds(t *testing.T) {
	edges := []int64{math.MinInt64, -top - 1, -top, -1, 0, 1, 2, top, top + 1, math.MaxInt64}
	r := rand.New(rand.NewSource(1))
	number := func() int64 { return edges[r.Intn(len(edges))] }
	d := worked(t, r, tables(t)[1])
	for range 3000 {
		x := tables(t)[r.Intn(5)]
		switch r.Intn(4) {
		case 0:
			x.Schemes[0][0].Rate = int(number())
		case 1:
			x.Limit = int(number())
		case 2:
			x.Contribs = append(x.Contribs, api.Contrib{Name: "\xff", Base: int(number()), YearCeil: number()})
		}
		c := api.Code{Scheme: int(number()), Kind: 1 + r.Intn(4), Amount: number(), Flat: int(number())}
		list := []run.Input{{Code: c, Elements: []api.Element{{Kind: "salary", Amount: number(), Units: number()}}}, {Code: coded(t, "NT"), Elements: all("salary", int(number()))}}
		if p, e := clean.Pay(x, begun(t, 1+r.Intn(4)), list[r.Intn(3):]...); (p == nil) != (e != api.OK) {
			t.Fatalf("%v beside %v", p, e)
		}
		one, e := clean.Of(year.Totals{Bases: bases(number(), number(), number()), Tax: number(), Shortfall: number()})
		if e != api.OK && !reflect.DeepEqual(one, clean.Due{}) {
			t.Fatalf("%v beside %v", one, e)
		}
		if !clean.Same(one, one) {
			t.Fatalf("%v isn't the same", one)
		}
		k := int(number())
		a, e1 := clean.Upto(d, k)
		b, e2 := clean.From(d, k)
		n, e3 := clean.Late(d, k)
		if (e1 != api.OK) != (e2 != api.OK) || (e1 != api.OK) != (e3 != api.OK) || !clean.Same(a, b) || e3 != api.OK && n != 0 {
			t.Fatalf("%d: %v, %v, %d beside %v, %v, %v", k, a, b, n, e1, e2, e3)
		}
	}
}
