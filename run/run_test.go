package run_test

import (
	"fmt"
	"math"
	"math/rand"
	"reflect"
	"slices"
	"testing"

	"stipend/api"
	"stipend/code"
	"stipend/element"
	"stipend/order"
	"stipend/period"
	"stipend/run"
	"stipend/social"
	"stipend/table"
	"stipend/year"
)

const top = 100_000_000_000 // as the document tells it

// edges: numbers at which something may go over.
var edges = []int64{math.MinInt64, math.MinInt64 + 1, -top * 2, -top - 1, -top, -top + 1, -top / 2, -100, -1, 0, 1, 50, 1000, top / 2, top - 1, top, top + 1, top * 2, math.MaxInt64 - 1, math.MaxInt64}

// read: the table of lines.
func read(t *testing.T, lines ...string) api.Table {
	t.Helper()
	x, n, e := table.Read(lines...)
	if e != api.OK {
		t.Fatalf("line %d: %v", n, e)
	}
	return x
}

// plain: a fifth of tax, a tenth of contributions of both sides; of kinds that count in all, in some, and not at all.
func plain(t *testing.T) api.Table {
	t.Helper()
	return read(t, "limit 5000", "round down", "scheme 0.00:2000", "contrib care social down 0.00 0.00 0.00:1000:1000", "kind salary + + +", "kind car 0 + 0", "kind saved - - 0", "kind cash + 0 0", "kind tip 0 0 +", "kind back - 0 0")
}

// coded: the code of a text.
func coded(t *testing.T, text string) api.Code {
	t.Helper()
	c, e := code.Parse(text)
	if e != api.OK {
		t.Fatalf("%s: %v", text, e)
	}
	return c
}

// begun: a tax year from a day on.
func begun(t *testing.T, freq, first int) *period.Year {
	t.Helper()
	y, e := period.New(freq, api.Date{Year: first, Month: 4, Day: 6})
	if e != api.OK {
		t.Fatal(e)
	}
	return y
}

// hired: an employee of a table and a code, paid by the month.
func hired(t *testing.T, x api.Table, text string) *run.Employee {
	t.Helper()
	p, e := run.New(x, begun(t, api.Monthly, 2023), coded(t, text))
	if p == nil || e != api.OK {
		t.Fatalf("New: %v, %v", p, e)
	}
	return p
}

// all: elements, of a kind and an amount in turn, each once.
func all(list ...any) []api.Element {
	var elements []api.Element
	for i := 0; i+1 < len(list); i += 2 {
		elements = append(elements, api.Element{Kind: list[i].(string), Amount: int64(list[i+1].(int)), Units: element.Once})
	}
	return elements
}

// bases: these bases.
func bases(cash, taxable, social int64) api.Bases {
	return api.Bases{Cash: cash, Taxable: taxable, Social: social}
}

// row: shares of these sides, the employee's and the employer's in turn.
func row(sides ...int64) social.Row {
	var list social.Row
	for i := 0; i+1 < len(sides); i += 2 {
		list = append(list, api.Share{Employee: sides[i], Employer: sides[i+1]})
	}
	return list
}

// same: are two answers the same, where lists of nothing are the same as none?
func same(a, b any) bool { return fmt.Sprintf("%+v", a) == fmt.Sprintf("%+v", b) }

// state: all that an employee tells.
func state(p *run.Employee) string {
	return fmt.Sprint(p.Period(), p.Orders(), p.Inputs(), p.Next(), p.Posted().Slips(), p.Posted().Totals(), p.Table(), p.Year(), p.TaxCode(), p.Protected())
}

// must tells a test's fault, if there is an error.
func must(t *testing.T, list ...api.Errno) {
	t.Helper()
	for i, e := range list {
		if e != api.OK {
			t.Fatalf("call %d: %v", i, e)
		}
	}
}

// paid: the next period, run with elements more.
func paid(t *testing.T, p *run.Employee, list ...api.Element) api.Slip {
	t.Helper()
	must(t, p.Pay(list...))
	s, e := p.Run()
	must(t, e)
	return s
}

// P21.1: who was paid nothing.
func TestNew(t *testing.T) {
	x := plain(t)
	for freq := api.Weekly; freq <= api.Monthly; freq++ {
		for _, text := range []string{"0L", "1257L", "1257LX", "K10", "D0", "NTX"} {
			y := begun(t, freq, 2023)
			p, e := run.New(x, y, coded(t, text))
			if p == nil || e != api.OK {
				t.Fatalf("New: %v, %v", p, e)
			}
			if p.Period() != 1 || p.TaxCode() != coded(t, text) || p.Protected() != 0 || len(p.Orders()) != 0 || len(p.Inputs()) != 0 || len(p.Next()) != 0 || !table.Same(p.Table(), x) {
				t.Errorf("New of %s: %s", text, state(p))
			}
			if got := p.Year(); got.Freq() != freq || got.Start() != y.Start() || got.Count() != y.Count() {
				t.Errorf("Year: %v, not %v", got, y)
			}
			if got := p.Posted(); got.Count() != 0 || !year.Same(got.Totals(), year.Totals{Shares: row(0, 0)}) {
				t.Errorf("Posted: %v", got.Totals())
			}
			// An empty period may be run: nothing is due of nothing.
			if s, e := p.Run(); e != api.OK || s.Pay != 0 || s.Period != 1 {
				t.Errorf("Run of nothing: %v, %v", s, e)
			}
		}
	}
}

// P21.1: the errors in their order: the table's, the code's, the year's.
func TestNewRefuses(t *testing.T) {
	x, y := plain(t), begun(t, api.Monthly, 2023)
	wrong, greedy := plain(t), plain(t)
	wrong.Kinds = nil
	greedy.Contribs[0].Bands[0].Rate = 4501 // a twentieth less a part is kept
	scheme, none := coded(t, "P0L"), api.Code{Kind: 9}
	for i, c := range []struct {
		t    api.Table
		y    *period.Year
		c    api.Code
		want api.Errno
	}{
		{wrong, nil, none, api.ErrLong}, {wrong, y, coded(t, "0L"), api.ErrLong},
		{greedy, nil, none, api.ErrKeep}, {greedy, y, coded(t, "0L"), api.ErrKeep}, {api.Table{}, y, coded(t, "0L"), api.ErrRange},
		{x, nil, none, api.ErrCode}, {x, nil, scheme, api.ErrScheme}, {x, y, scheme, api.ErrScheme}, {x, y, coded(t, "D1"), api.ErrCode}, {x, y, api.Code{Scheme: -1}, api.ErrScheme}, {x, y, api.Code{}, api.ErrCode},
		{x, nil, coded(t, "0L"), api.ErrMissing},
	} {
		if p, e := run.New(c.t, c.y, c.c); p != nil || e != c.want {
			t.Errorf("%d: New: %v, %v, not %v", i, p, e, c.want)
		}
	}
	greedy.Contribs[0].Bands[0].Rate = 4500
	if p, e := run.New(greedy, y, coded(t, "0L")); p == nil || e != api.OK {
		t.Errorf("New of a table that keeps a twentieth: %v", e)
	}
}

// inputs: inputs of one code, each of some elements.
func inputs(c api.Code, list ...[]api.Element) []run.Input {
	var all []run.Input
	for _, x := range list {
		all = append(all, run.Input{Code: c, Elements: x})
	}
	return all
}

// P21.2: what inputs come to.
func TestReckon(t *testing.T) {
	x, y := plain(t), begun(t, api.Monthly, 2023)
	flat, alone, none := coded(t, "0L"), coded(t, "12LX"), coded(t, "NT")
	for i, c := range []struct {
		gross int64
		list  []run.Input
		want  run.Clean
	}{
		{0, nil, run.Clean{Shares: row(0, 0)}},
		{5, nil, run.Clean{Shares: row(0, 0)}}, // there is no last one that it could be put to
		{math.MaxInt64, nil, run.Clean{Shares: row(0, 0)}},
		{0, inputs(flat, nil), run.Clean{Periods: []api.Bases{{}}, Shares: row(0, 0)}},
		{5, inputs(flat, nil), run.Clean{Periods: []api.Bases{bases(5, 5, 5)}, Sum: bases(5, 5, 5), Tax: 1, Shares: row(0, 0)}},
		{0, inputs(flat, all("salary", 1000)), run.Clean{Periods: []api.Bases{bases(1000, 1000, 1000)}, Sum: bases(1000, 1000, 1000), Tax: 200, Shares: row(100, 100)}},
		{0, inputs(flat, all("salary", 1000, "car", 300), all("saved", 100, "tip", 57)), run.Clean{Periods: []api.Bases{bases(1000, 1300, 1000), bases(-100, -100, 57)}, Sum: bases(900, 1200, 1057), Tax: 240, Shares: row(105, 105)}},
		{9, inputs(flat, all("salary", 1000), all("salary", 1)), run.Clean{Periods: []api.Bases{bases(1000, 1000, 1000), bases(10, 10, 10)}, Sum: bases(1010, 1010, 1010), Tax: 202, Shares: row(101, 101)}},
		{-9, inputs(flat, all("salary", 1000), all("salary", 1)), run.Clean{Periods: []api.Bases{bases(1000, 1000, 1000), bases(-8, -8, -8)}, Sum: bases(992, 992, 992), Tax: 198, Shares: row(100, 100)}},
		{0, inputs(alone, all("salary", 1100), all("salary", 50), all("salary", 150)), run.Clean{Periods: []api.Bases{bases(1100, 1100, 1100), bases(50, 50, 50), bases(150, 150, 150)}, Sum: bases(1300, 1300, 1300), Tax: 20, Shares: row(130, 130)}},
		{0, append(inputs(flat, all("salary", 1000)), inputs(none, all("salary", 1000))...), run.Clean{Periods: []api.Bases{bases(1000, 1000, 1000), bases(1000, 1000, 1000)}, Sum: bases(2000, 2000, 2000), Shares: row(200, 200)}},
		{0, append(inputs(none, all("salary", 1000)), inputs(flat, all("salary", 1000))...), run.Clean{Periods: []api.Bases{bases(1000, 1000, 1000), bases(1000, 1000, 1000)}, Sum: bases(2000, 2000, 2000), Tax: 400, Shares: row(200, 200)}},
	} {
		if got, e := run.Reckon(x, y, c.gross, c.list...); e != api.OK || !same(got, c.want) {
			t.Errorf("%d: Reckon: %+v, %v, not %+v", i, got, e, c.want)
		}
	}
}

// P21.2: the first error: of the elements, of the gross, of the codes and the tax, of all together, of the contributions.
func TestReckonRefuses(t *testing.T) {
	x, y := plain(t), begun(t, api.Monthly, 2023)
	fits, wrong, scheme := coded(t, "0L"), api.Code{}, coded(t, "P0L")
	much := all("cash", top/2, "cash", top/2)
	wide := read(t, "limit 5000", "round down", "scheme 0.00:0", "contrib care social down 0.00 0.00 0.00:1000:1000", "kind tip 0 0 +", "kind pit 0 0 -", "kind salary + + +")
	for i, c := range []struct {
		t     api.Table
		gross int64
		list  []run.Input
		want  api.Errno
	}{
		{x, math.MaxInt64, inputs(wrong, all("salary", 1), all("none", 1)), api.ErrKind},
		{x, 0, inputs(wrong, all("none", 1), all("salary", top+1)), api.ErrKind},
		{x, 0, inputs(wrong, all("salary", top+1), all("none", 1)), api.ErrOverflow},
		{x, 0, inputs(wrong, []api.Element{{Kind: "salary", Units: -1}}, all("none", 1)), api.ErrRange},
		{x, 0, inputs(wrong, slices.Repeat(all("salary", 1), 33), all("none", 1)), api.ErrLong},
		{x, top + 1, inputs(wrong, all("salary", 1)), api.ErrOverflow},
		{x, top, inputs(wrong, all("salary", 1)), api.ErrOverflow},
		{x, math.MinInt64, slices.Repeat(inputs(fits, nil), 13), api.ErrOverflow},
		{x, 0, slices.Repeat(inputs(wrong, nil), 13), api.ErrRange},
		{x, 0, inputs(wrong, nil), api.ErrCode},
		{x, 0, append(inputs(scheme, nil), inputs(wrong, nil)...), api.ErrScheme},
		{x, 0, append(inputs(wrong, nil), inputs(scheme, nil)...), api.ErrCode},
		{x, 0, append(inputs(fits, much, all("cash", 1)), inputs(wrong, nil)...), api.ErrCode}, // ahead of what all come to in cash
		{x, 0, append(inputs(fits, all("car", top), all("car", 1)), inputs(wrong, nil)...), api.ErrOverflow},
		{x, 0, inputs(fits, much, all("cash", 1)), api.ErrOverflow},
		{x, 1, inputs(fits, much, nil), api.ErrOverflow},
		// By turns far above 0 and far below it, all come to little; but what is below 0 doesn't make less what counted.
		{wide, 0, inputs(fits, all("tip", top), all("pit", top), all("tip", 1)), api.ErrOverflow},
	} {
		if got, e := run.Reckon(c.t, y, c.gross, c.list...); e != c.want || !same(got, run.Clean{}) {
			t.Errorf("%d: Reckon: %+v, %v, not %v", i, got, e, c.want)
		}
	}
	for freq := api.Weekly; freq <= api.Monthly; freq++ {
		y := begun(t, freq, 2023) // up to a leap year's April: 53 weeks, 27 fortnights and 14 times four weeks
		list := slices.Repeat(inputs(fits, all("salary", 100)), y.Count())
		if got, e := run.Reckon(x, y, 0, list...); e != api.OK || got.Tax != int64(20*y.Count()) || len(got.Periods) != y.Count() {
			t.Errorf("Reckon of a whole year: %+v, %v", got, e)
		}
		if got, e := run.Reckon(x, y, 0, append(list, run.Input{Code: fits})...); e != api.ErrRange || !same(got, run.Clean{}) {
			t.Errorf("Reckon of more periods than the year has: %+v, %v", got, e)
		}
	}
}

// P21.2: the payslip by which what was posted becomes what is due.
func TestSlip(t *testing.T) {
	x := plain(t)
	was := year.Totals{Bases: bases(1000, 1200, 900), Tax: 200, Shortfall: 40, Shares: row(90, 95), Net: 7, Taken: 8, Pay: 9}
	for i, c := range []struct {
		was  year.Totals
		c    run.Clean
		k    int
		back bool
		want api.Slip
	}{
		{year.Totals{}, run.Clean{}, 1, false, api.Slip{Period: 1}},
		{year.Totals{Shares: row(0, 0)}, run.Clean{Sum: bases(1000, 1000, 1000), Tax: 200, Shares: row(100, 100)}, 1, true, api.Slip{Period: 1, Bases: bases(1000, 1000, 1000), Tax: 200, Shares: row(100, 100), Net: 700, Pay: 700}},
		{was, run.Clean{Sum: bases(2000, 2000, 2000), Tax: 400, Shares: row(200, 205)}, 7, true, api.Slip{Period: 7, Bases: bases(1000, 800, 1100), Tax: 200, Shares: row(110, 110), Net: 690, Pay: 690}},
		// No more than half of the cash is withheld, none of what is below 0.
		{was, run.Clean{Sum: bases(1101, 0, 0), Tax: 300, Shares: row(90, 95)}, 53, true, api.Slip{Period: 53, Bases: bases(101, -1200, -900), Tax: 50, Shortfall: 50, Shares: row(0, 0), Net: 51, Pay: 51}},
		{was, run.Clean{Sum: bases(500, 0, 0), Tax: 300, Shares: row(0, 0)}, 2, false, api.Slip{Period: 2, Bases: bases(-500, -1200, -900), Shortfall: 100, Shares: row(-90, -95), Net: -410, Pay: -410}},
		// What was withheld too much is paid back, or carried.
		{was, run.Clean{Sum: bases(1000, 0, 0), Tax: 50, Shares: row(90, 95)}, 2, true, api.Slip{Period: 2, Bases: bases(0, -1200, -900), Tax: -150, Shares: row(0, 0), Net: 150, Pay: 150}},
		{was, run.Clean{Sum: bases(1000, 0, 0), Tax: 50, Shares: row(90, 95)}, 2, false, api.Slip{Period: 2, Bases: bases(0, -1200, -900), Shortfall: -150, Shares: row(0, 0)}},
	} {
		if got, e := run.Slip(x, c.was, c.c, c.k, c.back); e != api.OK || !same(got, c.want) {
			t.Errorf("%d: Slip: %+v, %v, not %+v", i, got, e, c.want)
		}
	}
}

// P21.2: the first error of what a payslip is made of: of the bases, the tax, the contributions, and all of it.
func TestSlipRefuses(t *testing.T) {
	x, free := plain(t), plain(t)
	free.Limit = 10_001
	type fault struct {
		e      api.Errno
		change func(t *api.Table, was *year.Totals, c *run.Clean, k *int)
	}
	faults := []fault{
		{api.ErrOverflow, func(_ *api.Table, was *year.Totals, c *run.Clean, _ *int) { was.Cash, c.Sum.Cash = -1, top }},
		{api.ErrOverflow, func(_ *api.Table, was *year.Totals, c *run.Clean, _ *int) { was.Social = top + 1 }},
		{api.ErrOverflow, func(_ *api.Table, was *year.Totals, c *run.Clean, _ *int) { c.Sum.Taxable = math.MinInt64 }},
		{api.ErrOverflow, func(_ *api.Table, was *year.Totals, _ *run.Clean, _ *int) { was.Tax = top + 1 }},
		{api.ErrOverflow, func(_ *api.Table, was *year.Totals, _ *run.Clean, _ *int) { was.Shortfall = -top - 1 }},
		{api.ErrOverflow, func(_ *api.Table, _ *year.Totals, c *run.Clean, _ *int) { c.Tax = math.MaxInt64 }},
		{api.ErrRate, func(t *api.Table, _ *year.Totals, _ *run.Clean, _ *int) { t.Limit = 10_001 }},
		{api.ErrRate, func(t *api.Table, _ *year.Totals, _ *run.Clean, _ *int) { t.Limit = -1 }},
		{api.ErrOverflow, func(_ *api.Table, was *year.Totals, c *run.Clean, _ *int) { was.Tax, c.Tax = -top, 1 }},
		{api.ErrMissing, func(_ *api.Table, was *year.Totals, _ *run.Clean, _ *int) { was.Shares = nil }},
		{api.ErrMissing, func(_ *api.Table, was *year.Totals, _ *run.Clean, _ *int) { was.Shares = row(1, 2, 3, 4) }},
		{api.ErrOverflow, func(_ *api.Table, was *year.Totals, c *run.Clean, _ *int) { c.Shares[0].Employer = top + 1 }},
		{api.ErrOverflow, func(_ *api.Table, was *year.Totals, c *run.Clean, _ *int) {
			was.Shares, c.Shares = row(0, -1), row(0, top)
		}},
		{api.ErrOverflow, func(_ *api.Table, was *year.Totals, c *run.Clean, _ *int) { // the net pay
			c.Sum.Cash, c.Shares = -top+900, row(1000, 0)
		}},
		{api.ErrRange, func(_ *api.Table, _ *year.Totals, _ *run.Clean, k *int) { *k = 0 }},
		{api.ErrRange, func(_ *api.Table, _ *year.Totals, _ *run.Clean, k *int) { *k = 54 }},
		{api.ErrRange, func(_ *api.Table, _ *year.Totals, _ *run.Clean, k *int) { *k = math.MinInt }},
	}
	for i, a := range faults {
		for j, b := range faults {
			if j < i {
				continue
			}
			y, was, c, k := x, year.Totals{Bases: bases(5, 6, 7), Tax: 1, Shares: row(1, 2)}, run.Clean{Sum: bases(105, 106, 107), Tax: 4, Shares: row(10, 20)}, 3
			b.change(&y, &was, &c, &k)
			a.change(&y, &was, &c, &k)
			want := a.e
			if (want == api.ErrOverflow) != (b.e == api.ErrOverflow) && i == 13 {
				continue // that the net pay is beyond the most hangs on what the other one changed, too
			}
			for _, back := range []bool{true, false} {
				if got, e := run.Slip(y, was, c, k, back); e != want || !same(got, api.Slip{}) {
					t.Errorf("faults %d and %d: Slip: %+v, %v, not %v", i, j, got, e, want)
				}
			}
		}
	}
}

// P21.3: the year is over, when all its periods were run: of all frequencies.
func TestPeriod(t *testing.T) {
	for freq := api.Weekly; freq <= api.Monthly; freq++ {
		for _, first := range []int{2022, 2023} {
			y := begun(t, freq, first)
			p, e := run.New(plain(t), y, coded(t, "0L"))
			must(t, e)
			for k := 1; k <= y.Count(); k++ {
				if p.Period() != k {
					t.Fatalf("Period: %d, not %d", p.Period(), k)
				}
				if s := paid(t, p, all("salary", 100*k)...); s.Period != k || s.Cash != int64(100*k) || s.Tax != int64(20*k) {
					t.Errorf("Run of the period %d: %+v", k, s)
				}
			}
			closed(t, p, y.Count())
		}
	}
}

// closed tells a test's fault, if the year isn't over, behind so many periods.
func closed(t *testing.T, p *run.Employee, count int) {
	t.Helper()
	must(t, p.Order(api.Order{ID: 1, Amount: 5}), p.Protect(7)) // these may be changed still
	was := state(p)
	if p.Period() != 0 {
		t.Errorf("Period: %d", p.Period())
	}
	for i, e := range []api.Errno{p.Code(coded(t, "0L")), p.Code(api.Code{}), p.Pay(), p.Pay(all("salary", 1)...), p.Pay(all("none", 1)...), p.Replace(1), p.Replace(count, all("none", 1)...)} {
		if e != api.ErrClosed {
			t.Errorf("call %d: %v", i, e)
		}
	}
	for _, k := range []int{math.MinInt, -1, 0, count + 1, math.MaxInt} {
		if e := p.Replace(k); e != api.ErrAhead {
			t.Errorf("Replace(%d): %v", k, e)
		}
	}
	if s, e := p.Run(); e != api.ErrClosed || !same(s, api.Slip{}) {
		t.Errorf("Run: %+v, %v", s, e)
	}
	for _, gross := range []int64{0, 1, math.MaxInt64} {
		if s, e := p.Try(gross); e != api.ErrClosed || !same(s, api.Slip{}) {
			t.Errorf("Try: %+v, %v", s, e)
		}
	}
	if got := state(p); got != was {
		t.Errorf("refused, calls changed something: %s, not %s", got, was)
	}
}

// P21.3: a tax code is that from the next period on, elements are put to those of the next period.
func TestCodePay(t *testing.T) {
	p := hired(t, plain(t), "0L")
	must(t, p.Pay(all("salary", 1000)...), p.Pay(), p.Pay(all("car", 500, "car", 100)...))
	if got, want := p.Next(), all("salary", 1000, "car", 500, "car", 100); !element.Same(got, want) {
		t.Errorf("Next: %v, not %v", got, want)
	}
	must(t, p.Code(coded(t, "NT")), p.Code(coded(t, "0LX")))
	if s, e := p.Run(); e != api.OK || s.Tax != 320 || len(p.Next()) != 0 {
		t.Errorf("Run: %+v, %v", s, e)
	}
	must(t, p.Code(coded(t, "NTX")))
	if s := paid(t, p, all("salary", 1000)...); s.Tax != 0 || s.Shortfall != 0 {
		t.Errorf("Run: %+v", s)
	}
	must(t, p.Code(coded(t, "D0")))
	// Of all of the year so far a fifth is due: the second period's, too.
	if s := paid(t, p, all("salary", 1000)...); s.Tax != 400 || s.Shortfall != 0 || p.TaxCode() != coded(t, "D0") {
		t.Errorf("Run: %+v", s)
	}
	want := []run.Input{{Code: coded(t, "0LX"), Elements: all("salary", 1000, "car", 500, "car", 100)}, {Code: coded(t, "NTX"), Elements: all("salary", 1000)}, {Code: coded(t, "D0"), Elements: all("salary", 1000)}}
	if got := p.Inputs(); !same(got, want) {
		t.Errorf("Inputs: %v, not %v", got, want)
	}
}

// P21.3: codes that don't fit, elements that may not be, or are too many.
func TestCodePayRefuse(t *testing.T) {
	p := hired(t, plain(t), "0L")
	paid(t, p, all("salary", 1000)...)
	must(t, p.Pay(slices.Repeat(all("salary", 1), 30)...))
	was := state(p)
	for _, c := range []struct {
		c    api.Code
		want api.Errno
	}{{api.Code{}, api.ErrCode}, {api.Code{Scheme: 8, Kind: 1}, api.ErrScheme}, {coded(t, "P0L"), api.ErrScheme}, {coded(t, "D1"), api.ErrCode}, {api.Code{Kind: 1, Amount: 999}, api.ErrCode}} {
		if e := p.Code(c.c); e != c.want {
			t.Errorf("Code(%v): %v, not %v", c.c, e, c.want)
		}
	}
	for i, c := range []struct {
		list []api.Element
		want api.Errno
	}{
		{all("salary", 1, "salary", 1, "none", 1), api.ErrLong}, {all("salary", 1, "none", 1), api.ErrKind}, {all("none", top+1, "salary", top+1), api.ErrKind}, {all("salary", top+1, "none", 1), api.ErrOverflow},
		{[]api.Element{{Kind: "salary", Units: 100_001}}, api.ErrRange}, {[]api.Element{{Kind: "salary", Amount: top, Units: 101}}, api.ErrOverflow}, {slices.Repeat(all("none", 1), 33), api.ErrLong},
	} {
		if e := p.Pay(c.list...); e != c.want {
			t.Errorf("%d: Pay: %v, not %v", i, e, c.want)
		}
	}
	if got := state(p); got != was {
		t.Errorf("refused, calls changed something: %s, not %s", got, was)
	}
	must(t, p.Pay(all("salary", 1, "salary", 1)...)) // 32 may be
	if e := p.Pay(all("salary", 1)...); e != api.ErrLong || len(p.Next()) != 32 {
		t.Errorf("Pay of the 33rd element: %v", e)
	}
	// Together they may be beyond the most: Run tells, not Pay.
	p = hired(t, plain(t), "0L")
	must(t, p.Pay(all("cash", top, "cash", top, "back", top)...))
	was = state(p)
	if s, e := p.Run(); e != api.ErrOverflow || !same(s, api.Slip{}) || state(p) != was {
		t.Errorf("Run: %+v, %v", s, e)
	}
}

// P21.3, P21.6: what is protected, and orders.
func TestProtectOrder(t *testing.T) {
	p := hired(t, plain(t), "0L")
	for _, x := range []int64{0, 1, 50, top, 7} {
		if e := p.Protect(x); e != api.OK || p.Protected() != x {
			t.Errorf("Protect(%d): %v, %d", x, e, p.Protected())
		}
	}
	for _, c := range []struct {
		x    int64
		want api.Errno
	}{{top + 1, api.ErrOverflow}, {-top - 1, api.ErrOverflow}, {math.MinInt64, api.ErrOverflow}, {math.MaxInt64, api.ErrOverflow}, {-1, api.ErrRange}, {-top, api.ErrRange}} {
		if e := p.Protect(c.x); e != c.want || p.Protected() != 7 {
			t.Errorf("Protect(%d): %v, %d", c.x, e, p.Protected())
		}
	}
	first, second := api.Order{ID: 5, Priority: 2, Amount: 100, Total: 250}, api.Order{ID: 9, Priority: 1, Rate: 1000}
	must(t, p.Order(first), p.Order(second))
	if got, want := p.Orders(), []order.State{{Order: second}, {Order: first}}; !slices.Equal(got, want) {
		t.Errorf("Orders: %v, not %v", got, want)
	}
	for i, c := range []struct{ e, want api.Errno }{{p.Order(first), api.ErrTwice}, {p.Order(api.Order{ID: 3}), api.ErrForm}, {p.Order(api.Order{}), api.ErrRange}, {p.Cancel(4), api.ErrMissing}, {p.Cancel(math.MinInt), api.ErrMissing}} {
		if c.e != c.want {
			t.Errorf("%d: %v, not %v", i, c.e, c.want)
		}
	}
	must(t, p.Cancel(9))
	if got, want := p.Orders(), []order.State{{Order: first}}; !slices.Equal(got, want) {
		t.Errorf("Orders: %v, not %v", got, want)
	}
	for id := 10; id < 17; id++ {
		must(t, p.Order(api.Order{ID: id, Amount: 1}))
	}
	if e := p.Order(api.Order{ID: 17, Amount: 1}); e != api.ErrLong {
		t.Errorf("Order of the ninth one: %v", e)
	}
}

// P21.4: the next period's payslip is told, ahead of orders, and nothing is posted.
func TestTry(t *testing.T) {
	p := hired(t, plain(t), "0L")
	must(t, p.Order(api.Order{ID: 1, Amount: 100}))
	paid(t, p, all("salary", 1000)...)
	must(t, p.Pay(all("salary", 500, "car", 200)...))
	was := state(p)
	for _, c := range []struct {
		gross int64
		want  api.Slip
	}{
		{0, api.Slip{Period: 2, Bases: bases(500, 700, 500), Tax: 140, Shares: row(50, 50), Net: 310, Pay: 310}},
		{100, api.Slip{Period: 2, Bases: bases(600, 800, 600), Tax: 160, Shares: row(60, 60), Net: 380, Pay: 380}},
		{-600, api.Slip{Period: 2, Bases: bases(-100, 100, -100), Shortfall: 20, Shares: row(0, 0), Net: -100, Pay: -100}},
		{-900, api.Slip{Period: 2, Bases: bases(-400, -200, -400), Tax: -40, Shares: row(0, 0), Net: -360, Pay: -360}},
	} {
		if got, e := p.Try(c.gross); e != api.OK || !same(got, c.want) {
			t.Errorf("Try(%d): %+v, %v, not %+v", c.gross, got, e, c.want)
		}
	}
	// By a code that stands alone nothing is paid back, whatever is due.
	must(t, p.Code(coded(t, "NTX")))
	if got, e := p.Try(-900); e != api.OK || got.Tax != 0 || got.Shortfall != 0 {
		t.Errorf("Try: %+v, %v", got, e)
	}
	must(t, p.Replace(1, all("salary", 900)...))
	if got, e := p.Try(0); e != api.OK || got.Tax != 0 || got.Shortfall != -20 || got.Cash != 400 {
		t.Errorf("Try: %+v, %v", got, e)
	}
	must(t, p.Code(coded(t, "NT")))
	if got, e := p.Try(0); e != api.OK || got.Tax != -200 || got.Shortfall != 0 {
		t.Errorf("Try: %+v, %v", got, e)
	}
	must(t, p.Code(coded(t, "0L")), p.Replace(1, all("salary", 1000)...))
	if got := state(p); got != was {
		t.Errorf("Try changed something: %s, not %s", got, was)
	}
}

// P21.4, P21.5: what is beyond the most is told, wherever it arises, and changes nothing.
func TestTryRefuses(t *testing.T) {
	refused := func(p *run.Employee, gross int64, want api.Errno) {
		t.Helper()
		was := state(p)
		if s, e := p.Try(gross); e != want || !same(s, api.Slip{}) {
			t.Errorf("Try(%d): %+v, %v, not %v", gross, s, e, want)
		}
		if gross == 0 {
			if s, e := p.Run(); e != want || !same(s, api.Slip{}) {
				t.Errorf("Run: %+v, %v, not %v", s, e, want)
			}
		}
		if got := state(p); got != was {
			t.Errorf("refused, calls changed something: %s, not %s", got, was)
		}
	}
	p := hired(t, plain(t), "0L")
	for _, gross := range []int64{top + 1, -top - 1, math.MaxInt64, math.MinInt64} {
		refused(p, gross, api.ErrOverflow)
	}
	if s, e := p.Try(top); e != api.OK || s.Cash != top || s.Net != top/10*7 {
		t.Errorf("Try of the most: %+v, %v", s, e)
	}
	paid(t, p, all("salary", 5)...)
	refused(p, top-4, api.ErrOverflow) // what is taxable in the year
	if _, e := p.Try(top - 5); e != api.OK {
		t.Errorf("Try: %v", e)
	}
	// The payslip itself: what was posted is far from what is due.
	p = hired(t, plain(t), "0L")
	paid(t, p, all("back", top)...)
	must(t, p.Replace(1, all("cash", 1)...))
	refused(p, 0, api.ErrOverflow)
	must(t, p.Replace(1))
	if _, e := p.Try(0); e != api.OK {
		t.Errorf("Try: %v", e)
	}
	// Only the net pays of all are beyond the most.
	p = hired(t, plain(t), "0L")
	paid(t, p, all("back", top/2, "tip", 1000)...)
	must(t, p.Pay(all("back", top/2, "tip", 1000)...))
	refused(p, 0, api.ErrOverflow)
	must(t, p.Pay(all("cash", 200)...))
	if _, e := p.Try(0); e != api.OK {
		t.Errorf("Try: %v", e)
	}
}

// P21.5: a period is paid: its orders are served, what it is paid by is its input.
func TestRun(t *testing.T) {
	p := hired(t, plain(t), "0L")
	must(t, p.Order(api.Order{ID: 7, Priority: 1, Amount: 300, Total: 700}), p.Order(api.Order{ID: 8, Priority: 0, Rate: 1000}), p.Protect(400))
	s := paid(t, p, all("salary", 1000)...)
	want := api.Slip{Period: 1, Bases: bases(1000, 1000, 1000), Tax: 200, Shares: row(100, 100), Net: 700, Taken: []api.Taken{{Order: 8, Ordered: 70, Due: 70, Taken: 70}, {Order: 7, Ordered: 300, Due: 300, Taken: 230, Carried: 70}}, Pay: 400}
	if !same(s, want) {
		t.Errorf("Run: %+v, not %+v", s, want)
	}
	if got, want := p.Orders(), []order.State{{Order: api.Order{ID: 8, Rate: 1000}, Taken: 70}, {Order: api.Order{ID: 7, Priority: 1, Amount: 300, Total: 700}, Taken: 230, Arrears: 70}}; !slices.Equal(got, want) {
		t.Errorf("Orders: %v, not %v", got, want)
	}
	if got, e := p.Posted().Slip(1); e != api.OK || !same(got, want) {
		t.Errorf("Slip(1): %+v, %v", got, e)
	}
	must(t, p.Protect(0))
	s = paid(t, p, all("salary", 1000)...)
	want = api.Slip{Period: 2, Bases: bases(1000, 1000, 1000), Tax: 200, Shares: row(100, 100), Net: 700, Taken: []api.Taken{{Order: 8, Ordered: 70, Due: 70, Taken: 70}, {Order: 7, Brought: 70, Ordered: 300, Due: 370, Taken: 370}}, Pay: 260}
	if !same(s, want) {
		t.Errorf("Run: %+v, not %+v", s, want)
	}
	s = paid(t, p, all("salary", 1000)...)
	if want := (api.Taken{Order: 7, Ordered: 100, Due: 100, Taken: 100}); s.Taken[1] != want || s.Pay != 530 || p.Period() != 4 {
		t.Errorf("Run: %+v", s)
	}
	// Without elements, and without net pay, nothing is taken.
	if s := paid(t, p); s.Pay != 0 || len(s.Taken) != 2 || s.Taken[0].Taken != 0 {
		t.Errorf("Run: %+v", s)
	}
	if got := p.Inputs(); len(got) != 4 || len(got[3].Elements) != 0 || got[3].Code != coded(t, "0L") {
		t.Errorf("Inputs: %v", got)
	}
}

// P21.5: an order that may not be served: nothing is posted, and no order took anything.
func TestRunOrderRefuses(t *testing.T) {
	p := hired(t, plain(t), "0L")
	must(t, p.Order(api.Order{ID: 1, Amount: 10}), p.Order(api.Order{ID: 2, Amount: top, Rate: 10_000}), p.Pay(all("salary", 1000)...))
	was := state(p)
	for range 2 {
		if s, e := p.Run(); e != api.ErrOverflow || !same(s, api.Slip{}) {
			t.Errorf("Run: %+v, %v", s, e)
		}
		if got := state(p); got != was {
			t.Errorf("refused, Run changed something: %s, not %s", got, was)
		}
	}
	if s, e := p.Try(0); e != api.OK || s.Net != 700 {
		t.Errorf("Try: %+v, %v", s, e)
	}
	must(t, p.Cancel(2))
	if s, e := p.Run(); e != api.OK || s.Pay != 690 {
		t.Errorf("Run: %+v, %v", s, e)
	}
	// What an order took in all is beyond the most.
	p = hired(t, plain(t), "NT")
	must(t, p.Order(api.Order{ID: 1, Amount: 10}), p.Order(api.Order{ID: 2, Priority: 1, Rate: 10_000}))
	paid(t, p, all("cash", top)...)
	paid(t, p, all("back", top)...)
	must(t, p.Pay(all("cash", 100)...))
	was = state(p)
	if s, e := p.Run(); e != api.ErrOverflow || !same(s, api.Slip{}) || state(p) != was {
		t.Errorf("Run: %+v, %v: %s, not %s", s, e, state(p), was)
	}
	// What all orders took together would be, too: then Post tells it, when they are served.
	must(t, p.Cancel(2))
	was = state(p)
	if s, e := p.Run(); e != api.ErrOverflow || !same(s, api.Slip{}) || state(p) != was {
		t.Errorf("Run: %+v, %v: %s, not %s", s, e, state(p), was)
	}
	must(t, p.Cancel(1))
	if s, e := p.Run(); e != api.OK || s.Pay != 100 {
		t.Errorf("Run: %+v, %v", s, e)
	}
}

// P21.5: the document's example: what a correction changes is posted with the next period, what was posted stays.
func TestReplaceExample(t *testing.T) {
	p := hired(t, plain(t), "0L")
	if s := paid(t, p, all("salary", 1000)...); s.Net != 700 {
		t.Errorf("Run: %+v", s)
	}
	posted, _ := p.Posted().Slip(1)
	must(t, p.Replace(1, all("salary", 2000)...))
	if got, _ := p.Posted().Slip(1); !same(got, posted) || p.Posted().Count() != 1 || p.Period() != 2 {
		t.Errorf("Replace changed what was posted: %+v", got)
	}
	if got, want := p.Inputs(), inputs(coded(t, "0L"), all("salary", 2000)); !same(got, want) {
		t.Errorf("Inputs: %v, not %v", got, want)
	}
	want := api.Slip{Period: 2, Bases: bases(1000, 1000, 1000), Tax: 200, Shares: row(100, 100), Net: 700, Pay: 700}
	if s, e := p.Run(); e != api.OK || !same(s, want) {
		t.Errorf("Run: %+v, %v, not %+v", s, e, want)
	}
	// It may be corrected once more, and back.
	must(t, p.Replace(1), p.Replace(2, all("salary", 5)...), p.Replace(1, all("salary", 1000)...), p.Replace(2))
	want = api.Slip{Period: 3, Bases: bases(-1000, -1000, -1000), Tax: -200, Shares: row(-100, -100), Net: -700, Pay: -700}
	if s, e := p.Run(); e != api.OK || !same(s, want) {
		t.Errorf("Run: %+v, %v, not %+v", s, e, want)
	}
}

// P21.5: what may not be replaced.
func TestReplaceRefuses(t *testing.T) {
	p := hired(t, plain(t), "0L")
	for _, k := range []int{0, 1, -1, math.MaxInt} {
		if e := p.Replace(k, all("none", 1)...); e != api.ErrAhead {
			t.Errorf("Replace(%d): %v", k, e)
		}
	}
	paid(t, p, all("car", top-10)...)
	paid(t, p, all("car", 5)...)
	must(t, p.Pay(all("car", 7)...)) // isn't asked: it may be taken back by another correction still
	was := state(p)
	for i, c := range []struct {
		k    int
		list []api.Element
		want api.Errno
	}{
		{0, nil, api.ErrAhead}, {3, nil, api.ErrAhead}, {-1, all("none", 1), api.ErrAhead}, {math.MinInt, nil, api.ErrAhead}, {math.MaxInt, nil, api.ErrAhead},
		{1, all("none", 1), api.ErrKind}, {2, slices.Repeat(all("none", 1), 33), api.ErrLong}, {1, all("salary", top+1), api.ErrOverflow}, {1, []api.Element{{Kind: "car", Units: -1}}, api.ErrRange},
		{1, all("car", top, "car", 1), api.ErrOverflow}, {2, all("car", 11), api.ErrOverflow}, {1, all("car", top-4), api.ErrOverflow},
	} {
		if e := p.Replace(c.k, c.list...); e != c.want {
			t.Errorf("%d: Replace: %v, not %v", i, e, c.want)
		}
		if got := state(p); got != was {
			t.Fatalf("refused, Replace changed something: %s, not %s", got, was)
		}
	}
	must(t, p.Replace(2, all("car", 10)...))
	if s, e := p.Try(0); e != api.ErrOverflow {
		t.Errorf("Try: %+v, %v", s, e)
	}
	must(t, p.Replace(2, all("car", 3)...))
	if s, e := p.Try(0); e != api.OK || s.Taxable != 5 {
		t.Errorf("Try: %+v, %v", s, e)
	}
	must(t, p.Replace(2, slices.Repeat(all("car", 0), 32)...))
}

// tables: some of all kinds that are accepted.
func tables(t *testing.T) []api.Table {
	t.Helper()
	kinds := []string{"kind salary + + +", "kind car 0 + 0", "kind saved - - 0", "kind cash + 0 0", "kind tip 0 0 +", "kind back - 0 -"}
	of := func(lines ...string) api.Table { return read(t, append(lines, kinds...)...) }
	return []api.Table{
		plain(t),
		of("limit 5000", "round halfup", "scheme 0.00:0 100.00:2000 300.00:4000", "contrib care social halfup 0.00 2500.00 0.00:500:700", "contrib fund taxable up 400.00 0.00 0.00:0:100 50.00:1000:333"),
		of("limit 3333", "round halfeven", "scheme 0.00:1999 500.00:3001", "scheme 0.00:4501", "contrib care taxable halfdown 100.00 300.00 0.00:1:2 1.00:777:3"),
		of("limit 8000", "round up", "scheme 0.00:100 10.00:0 20.00:5000"),
		of("limit 0", "round inward", "scheme 0.00:2000", "scheme 0.00:10 0.05:20 0.07:30", "contrib a social down 0.00 0.00 0.00:100:0", "contrib b social up 5.00 6.00 0.00:101:1", "contrib c taxable halfeven 0.00 60.00 0.00:0:0 7.00:3000:3000"),
	}
}

// chance: an element by chance, of an amount that is mostly small.
func chance(r *rand.Rand, x api.Table) api.Element {
	e := api.Element{Kind: x.Kinds[r.Intn(len(x.Kinds))].Name, Amount: r.Int63n(20_000) - 4000, Units: element.Once}
	if r.Intn(3) == 0 {
		e.Units = r.Int63n(300)
	}
	return e
}

// some: elements by chance.
func some(r *rand.Rand, x api.Table) []api.Element {
	var list []api.Element
	for range r.Intn(4) {
		list = append(list, chance(r, x))
	}
	return list
}

// stands tells a test's fault, if an employee isn't as the model is.
func stands(t *testing.T, p *run.Employee, m *model) {
	t.Helper()
	k := len(m.slips) + 1
	if m.over() {
		k = 0
	}
	if p.Period() != k || p.TaxCode() != m.code || p.Protected() != m.protected {
		t.Fatalf("%d, %v, %d: not %d, %v, %d", p.Period(), p.TaxCode(), p.Protected(), k, m.code, m.protected)
	}
	if got := p.Orders(); !slices.Equal(got, m.orders) {
		t.Fatalf("Orders: %v, not %v", got, m.orders)
	}
	if got := p.Inputs(); !same(got, m.inputs) {
		t.Fatalf("Inputs: %v, not %v", got, m.inputs)
	}
	if got := p.Next(); !element.Same(got, m.next) {
		t.Fatalf("Next: %v, not %v", got, m.next)
	}
	if got := p.Posted().Slips(); !same(got, m.slips) {
		t.Fatalf("Posted: %v, not %v", got, m.slips)
	}
}

// step: the same thing, by chance, to an employee and to the model.
func step(t *testing.T, r *rand.Rand, p *run.Employee, m *model) {
	t.Helper()
	texts := []string{"0L", "12L", "12LX", "K12", "D0", "D0X", "NT", "NTX", "P6L", "P6LX"}
	switch r.Intn(8) {
	case 0:
		c := coded(t, texts[r.Intn(len(texts))])
		if table.Fits(m.t, c) == api.OK && !m.over() {
			must(t, p.Code(c))
			m.code = c
		}
	case 1:
		x := r.Int63n(15_000)
		must(t, p.Protect(x))
		m.protected = x
	case 2:
		o := api.Order{ID: 1 + r.Intn(5), Priority: r.Intn(3), Amount: 1 + r.Int63n(3000), Rate: r.Intn(3) * 500, Total: r.Int63n(3) * 4000}
		if slices.ContainsFunc(m.orders, func(s order.State) bool { return s.ID == o.ID }) {
			must(t, p.Cancel(o.ID))
			m.orders = slices.DeleteFunc(m.orders, func(s order.State) bool { return s.ID == o.ID })
			return
		}
		must(t, p.Order(o))
		m.order(o)
	case 3:
		if len(m.slips) > 0 && !m.over() {
			k, list := 1+r.Intn(len(m.slips)), some(r, m.t)
			must(t, p.Replace(k, list...))
			m.inputs = slices.Clone(m.inputs)
			m.inputs[k-1].Elements = list
		}
	case 4:
		if gross := r.Int63n(20_000) - 5000; !m.over() {
			if got, e := p.Try(gross); e != api.OK || !same(got, m.try(gross)) {
				t.Fatalf("Try(%d): %+v, %v, not %+v", gross, got, e, m.try(gross))
			}
		}
	default:
		if m.over() {
			return
		}
		list := some(r, m.t)
		must(t, p.Pay(list...))
		m.next = append(m.next, list...)
		if r.Intn(3) > 0 {
			got, e := p.Run()
			if want := m.run(); e != api.OK || !same(got, want) {
				t.Fatalf("Run: %+v, %v, not %+v", got, e, want)
			}
		}
	}
}

// P21.2 to P21.6: employees of all kinds, step by step, against the model; clones are of their own.
func TestMany(t *testing.T) {
	r := rand.New(rand.NewSource(21))
	for round := range 120 {
		x := tables(t)[round%5]
		freq := 1 + r.Intn(4)
		y := begun(t, freq, 2022+r.Intn(2))
		p, e := run.New(x, y, coded(t, "0L"))
		must(t, e)
		m := &model{t: x, count: y.Count(), nominal: period.Nominal(freq), code: coded(t, "0L")}
		for range 20 + r.Intn(120) {
			step(t, r, p, m)
			if r.Intn(15) == 0 {
				twin, was := p.Clone(), m.clone()
				stands(t, twin, was)
				step(t, r, twin, was)
				step(t, r, twin, was)
				stands(t, twin, was)
			}
			stands(t, p, m)
		}
	}
}

// P21.2: what inputs come to, and payslips of that, against the model.
func TestReckonMany(t *testing.T) {
	r := rand.New(rand.NewSource(212))
	texts := []string{"0L", "12L", "12LX", "K12", "K12X", "D0", "D0X", "NT", "NTX"}
	for round := range 2000 {
		x := tables(t)[round%5]
		freq := 1 + r.Intn(4)
		y := begun(t, freq, 2022+r.Intn(2))
		m := &model{t: x, count: y.Count(), nominal: period.Nominal(freq)}
		var list []run.Input
		for range r.Intn(min(y.Count(), 20) + 1) {
			list = append(list, run.Input{Code: coded(t, texts[r.Intn(len(texts))]), Elements: some(r, x)})
		}
		gross := r.Int63n(9000) - 2000
		if got, e := run.Reckon(x, y, gross, list...); e != api.OK || !same(got, m.reckon(gross, list)) {
			t.Fatalf("Reckon(%d, %v): %+v, %v, not %+v", gross, list, got, e, m.reckon(gross, list))
		}
	}
}

// P21.5: in the end, what was posted is what is due, however it was corrected, but for what is carried.
func TestDue(t *testing.T) {
	r := rand.New(rand.NewSource(215))
	for round := range 60 {
		x := tables(t)[round%5]
		p := hired(t, x, "0L")
		for p.Period() != 0 {
			paid(t, p, some(r, x)...)
			for range r.Intn(3) {
				if p.Period() != 0 {
					must(t, p.Replace(1+r.Intn(p.Posted().Count()), some(r, x)...))
				}
			}
		}
		c, e := run.Reckon(x, p.Year(), 0, p.Inputs()...)
		must(t, e)
		got := p.Posted().Totals()
		if got.Bases != c.Sum || got.Tax+got.Shortfall != c.Tax || !slices.Equal(got.Shares, c.Shares) {
			t.Errorf("posted %+v, due %+v", got, c)
		}
	}
}

// spoil changes all lists of inputs, their spare room too.
func spoil(list []run.Input) {
	for i := range list[:cap(list)] {
		elements := list[:cap(list)][i].Elements
		for j := range elements[:cap(elements)] {
			elements[:cap(elements)][j] = api.Element{Kind: "spoilt", Amount: -77}
		}
		list[:cap(list)][i] = run.Input{}
	}
}

// spoilTable changes all lists of a table.
func spoilTable(x api.Table) {
	for _, scheme := range x.Schemes {
		clear(scheme[:cap(scheme)])
	}
	for _, c := range x.Contribs {
		clear(c.Bands[:cap(c.Bands)])
	}
	clear(x.Schemes[:cap(x.Schemes)])
	clear(x.Contribs[:cap(x.Contribs)])
	clear(x.Kinds[:cap(x.Kinds)])
}

// P2: what is handed in stays as it is, its spare room too, and isn't kept; answers share nothing with one another, nor with what is kept.
func TestMemory(t *testing.T) {
	x, y := plain(t), begun(t, api.Monthly, 2023)
	p, e := run.New(x, y, coded(t, "0L"))
	must(t, e, p.Order(api.Order{ID: 1, Amount: 10}))
	if !table.Same(x, plain(t)) {
		t.Error("New changed the table")
	}
	spoilTable(x)
	*y = *begun(t, api.Weekly, 2020)
	list := append(all("salary", 1000, "car", 5, "tip", 9), api.Element{Kind: "spare"})
	was := slices.Clone(list)
	must(t, p.Pay(list[:1]...), p.Pay(list[1:2]...))
	first := list[:3]
	if !slices.Equal(list, was) {
		t.Errorf("Pay changed its list: %v", list)
	}
	clear(list)
	s, e := p.Run()
	must(t, e)
	copy(list, was)
	must(t, p.Replace(1, first...), p.Pay(first...))
	if !slices.Equal(list, was) {
		t.Errorf("Replace or Pay changed its list: %v", list)
	}
	clear(list)
	if !table.Same(p.Table(), plain(t)) || p.Year().Count() != 12 {
		t.Error("what was handed in is kept")
	}
	if got := p.Inputs(); !element.Same(got[0].Elements, was[:3]) || !element.Same(p.Next(), was[:3]) {
		t.Errorf("what was handed in is kept: %v, %v", got, p.Next())
	}
	told := state(p)
	twin := p.Clone()
	for _, who := range []*run.Employee{p, twin} {
		spoil(who.Inputs())
		clear(who.Next())
		clear(who.Orders())
		spoilTable(who.Table())
		*who.Year() = *begun(t, api.Weekly, 2020)
		kept := who.Posted()
		must(t, kept.Post(api.Slip{Period: 2, Shares: row(0, 0)}))
		clear(s.Shares[:cap(s.Shares)])
		clear(s.Taken[:cap(s.Taken)])
		tried, e := who.Try(5)
		must(t, e)
		clear(tried.Shares)
		if got := state(who); got != told {
			t.Errorf("an answer shares memory with what is kept: %s, not %s", got, told)
		}
	}
	// What one of both does, the other one doesn't tell.
	must(t, twin.Pay(all("salary", 1)...), twin.Order(api.Order{ID: 2, Amount: 1}), twin.Protect(5), twin.Code(coded(t, "NT")), twin.Replace(1))
	if _, e := twin.Run(); e != api.OK || state(p) != told {
		t.Errorf("the clone shares memory: %s, not %s", state(p), told)
	}
}

// P2: Reckon and Slip neither change nor share what they are given.
func TestMemoryReckon(t *testing.T) {
	x, y := plain(t), begun(t, api.Monthly, 2023)
	list := inputs(coded(t, "0L"), all("salary", 1000), all("car", 5, "tip", 7))
	was := fmt.Sprint(list, x)
	c, e := run.Reckon(x, y, 9, list[:1]...)
	must(t, e)
	told := fmt.Sprint(c)
	totals := year.Totals{Bases: bases(1, 2, 3), Tax: 4, Shares: row(5, 6)}
	s, e := run.Slip(x, totals, c, 2, true)
	must(t, e)
	text := fmt.Sprint(s)
	again, _ := run.Slip(x, totals, c, 2, true)
	clear(again.Shares[:cap(again.Shares)])
	other, _ := run.Reckon(x, y, 9, list[:1]...)
	clear(other.Periods[:cap(other.Periods)])
	clear(other.Shares[:cap(other.Shares)])
	if fmt.Sprint(list, x) != was || fmt.Sprint(c) != told || fmt.Sprint(s) != text || !slices.Equal(totals.Shares, row(5, 6)) {
		t.Error("something handed in was changed, or answers share memory")
	}
	clear(c.Shares)
	clear(totals.Shares)
	if fmt.Sprint(s) != text {
		t.Error("the payslip shares memory with what it is made of")
	}
}

// wildTable: a table of any numbers.
func wildTable(r *rand.Rand, t *testing.T) api.Table {
	x := tables(t)[r.Intn(5)]
	number := func() int { return int(edges[r.Intn(len(edges))]) }
	switch r.Intn(6) {
	case 0:
		return api.Table{}
	case 1:
		x.Schemes[0] = append(x.Schemes[0], api.Band{From: edges[r.Intn(len(edges))], Rate: number(), Employer: number()})
	case 2:
		x.Contribs = append(x.Contribs, api.Contrib{Name: "wild", Base: number(), PeriodCeil: edges[r.Intn(len(edges))], YearCeil: edges[r.Intn(len(edges))], Round: number()})
	case 3:
		x.Limit, x.Round = number(), number()
	case 4:
		x.Kinds[0].Cash, x.Kinds[0].Taxable = number(), number()
	}
	return x
}

// wild: elements of any amounts.
func wild(r *rand.Rand, x api.Table) []api.Element {
	if len(x.Kinds) == 0 {
		x.Kinds = []api.Kind{{Name: "none"}}
	}
	list := some(r, x)
	if len(list) > 0 && r.Intn(3) == 0 {
		list[0] = api.Element{Kind: list[0].Kind, Amount: edges[r.Intn(len(edges))], Units: []int64{100, 100, 0, -1, 100_000, 100_001, math.MinInt64}[r.Intn(7)]}
	}
	if r.Intn(20) == 0 {
		list = slices.Repeat(append(list, api.Element{Kind: "\xff"}), 12)
	}
	return list
}

// P1, P2: no call panics, whatever it is given; beside an error all is zero; what is refused changes nothing; the same calls answer the same.
func TestEnds(t *testing.T) {
	for seed := range int64(800) {
		if a, b := ends(t, seed), ends(t, seed); a != b {
			t.Fatalf("the same calls answer otherwise: %s, %s", a, b)
		}
	}
}

// ends: what calls by chance answer.
func ends(t *testing.T, seed int64) (text string) {
	t.Helper()
	defer func() {
		if why := recover(); why != nil {
			t.Fatalf("%d: %v", seed, why)
		}
	}()
	r := rand.New(rand.NewSource(seed))
	number := func() int64 { return edges[r.Intn(len(edges))] }
	x, y := wildTable(r, t), begun(t, 1+r.Intn(4), 2023)
	c := []api.Code{{}, {Kind: 1}, {Kind: 1, Alone: true}, {Kind: 3}, {Kind: 2, Amount: 1000}, {Scheme: int(number()), Kind: int(number()), Amount: number(), Flat: int(number())}}[r.Intn(6)]
	var list []run.Input
	for range r.Intn(4) {
		list = append(list, run.Input{Code: c, Elements: wild(r, x)})
	}
	clean, e := run.Reckon(x, y, number(), list...)
	s, e2 := run.Slip(x, year.Totals{Bases: bases(number(), 1, number()), Tax: number(), Shortfall: number(), Shares: row(number(), number())}, run.Clean{Sum: bases(5, number(), 7), Tax: number(), Shares: row(1, number())}, int(number()), r.Intn(2) == 0)
	if e != api.OK && !reflect.DeepEqual(clean, run.Clean{}) || e2 != api.OK && !reflect.DeepEqual(s, api.Slip{}) {
		t.Errorf("%+v, %+v beside %v, %v", clean, s, e, e2)
	}
	text = fmt.Sprint(clean, e, s, e2)
	p, e := run.New(x, y, c)
	if e != api.OK {
		if p != nil {
			t.Errorf("an employee beside %v", e)
		}
		if p, e = run.New(plain(t), y, coded(t, "0L")); e != api.OK {
			t.Fatal(e)
		}
	}
	for range 25 {
		was := state(p)
		s, e := api.Slip{}, api.OK
		switch r.Intn(8) {
		case 0:
			e = p.Code(c)
		case 1:
			e = p.Protect(number())
		case 2:
			e = p.Order(api.Order{ID: int(number()), Priority: 1, Amount: number(), Rate: r.Intn(3) * 5000, Total: number()})
		case 3:
			e = p.Cancel(int(number()))
		case 4:
			e = p.Replace(int(number()), wild(r, x)...)
		case 5:
			s, e = p.Try(number())
		default:
			if e = p.Pay(wild(r, x)...); e == api.OK {
				was = state(p)
				s, e = p.Run()
			}
		}
		if e != api.OK && (state(p) != was || !reflect.DeepEqual(s, api.Slip{})) {
			t.Errorf("%v changed something, or beside it is %v: %s, not %s", e, s, state(p), was)
		}
		text += fmt.Sprint(e, s, state(p))
	}
	return text
}
