package gross_test

import (
	"fmt"
	"math"
	"math/rand"
	"testing"

	"stipend/api"
	"stipend/code"
	"stipend/period"
	"stipend/run"
	"stipend/table"
)

// The document's limits.
const (
	top   = 10_000_000_000  // the most that is paid more
	money = 100_000_000_000 // the greatest amount
	full  = 10_000          // parts of a least coin
)

// edges: numbers at which something may go over.
var edges = []int64{
	math.MinInt64, math.MinInt64 + 1, -1 << 62, -2*money - 1, -money - 2, -money - 1, -money, -money + 1, -top - 1, -top, -100, -1, 0, 1, 100, 1000,
	top - 1, top, top + 1, money - 1, money, money + 1, money + 2, 2*money + 1, 1 << 62, math.MaxInt64 - 1, math.MaxInt64,
}

// read: the table of lines.
func read(t *testing.T, lines ...string) api.Table {
	t.Helper()
	x, n, e := table.Read(lines...)
	if e != api.OK {
		t.Fatalf("line %d: %v", n, e)
	}
	return x
}

// coded: the code of a text.
func coded(t *testing.T, text string) api.Code {
	t.Helper()
	c, e := code.Parse(text)
	if e != api.OK {
		t.Fatalf("%s: %v", text, e)
	}
	return c
}

// hired: an employee of a table and a code, paid by the month.
func hired(t *testing.T, x api.Table, text string, list ...api.Element) *run.Employee {
	t.Helper()
	y, e := period.New(api.Monthly, api.Date{Year: 2023, Month: 4, Day: 6})
	p, d := run.New(x, y, coded(t, text))
	if p == nil || e != api.OK || d != api.OK {
		t.Fatalf("New: %v %v", e, d)
	}
	must(t, p.Pay(list...))
	return p
}

// of: an element, once.
func of(kind string, amount int64) api.Element {
	return api.Element{Kind: kind, Amount: amount, Units: 100}
}

// must tells a test's fault, if there is an error.
func must(t *testing.T, list ...api.Errno) {
	t.Helper()
	for i, e := range list {
		if e != api.OK {
			t.Fatalf("call %d: %v", i, e)
		}
	}
}

// example: the document's: a fifth of tax, rounded down, a tenth of up to 500, rounded up.
func example(t *testing.T) api.Table {
	t.Helper()
	return read(t, "limit 8500", "round down", "scheme 0.00:2000", "contrib care social up 5.00 0.00 0.00:1000:2000",
		"kind salary + + +", "kind car 0 + 0", "kind back - 0 0", "kind cash + 0 0", "kind tip 0 0 +")
}

// over: an employee whose year is over.
func over(t *testing.T, x api.Table) *run.Employee {
	t.Helper()
	p := hired(t, x, "0L")
	for range 12 {
		_, e := p.Run()
		must(t, e)
	}
	return p
}

// deep: an employee of whose pay nothing is left but the most below 0: of no more that may be, of 2 more, too, but of 1 more it isn't so much less.
func deep(t *testing.T) *run.Employee {
	t.Helper()
	x := read(t, "limit 0", "round down", "scheme 0.00:0", "contrib a social up 0.00 0.00 0.00:1:0", "contrib b social up 0.00 0.00 0.00:1:0", "kind back - 0 0")
	return hired(t, x, "0L", of("back", money))
}

// high: an employee of whose pay the most is left, of the most more, and of 2 less: of 1 less it would be a coin more than may be, as a coin of each contribution is paid back yet.
func high(t *testing.T) *run.Employee {
	t.Helper()
	x := read(t, "limit 0", "round down", "scheme 0.00:0", "contrib a social down 0.00 0.00 0.00:100:0", "contrib b social down 0.00 0.00 0.00:100:0", "kind tip 0 0 +", "kind cash + 0 0")
	p := hired(t, x, "0L", of("tip", top))
	_, e := p.Run()
	must(t, e, p.Replace(1), p.Pay(of("cash", money-top)))
	return p
}

// chanceBands: bands whose greatest rate of the employee's is no more than one, with corners of a size.
func chanceBands(r *rand.Rand, rate int, size int64, employer bool) []api.Band {
	list := []api.Band{{}}
	for n := r.Intn(8); n > 0; n-- {
		if from := list[len(list)-1].From + 1 + r.Int63n(size); from <= money {
			list = append(list, api.Band{From: from})
		}
	}
	for i := range list {
		list[i].Rate = r.Intn(rate + 1)
		if r.Intn(4) == 0 {
			list[i].Rate = rate
		}
		if employer {
			list[i].Employer = r.Intn(4001)
		}
	}
	return list
}

// chanceTable: a table that is accepted, with corners of a size.
func chanceTable(r *rand.Rand, size int64) api.Table {
	x := api.Table{Round: 1 + r.Intn(6)}
	left := 9500
	some := func() int { // of what may be taken yet
		rate := r.Intn(left + 1)
		if r.Intn(3) > 0 {
			rate /= 4
		}
		left -= rate
		return rate
	}
	most := some()
	x.Limit = most
	if r.Intn(3) == 0 {
		x.Limit = r.Intn(most + 1)
	}
	for range 1 + r.Intn(3) {
		x.Schemes = append(x.Schemes, chanceBands(r, most, size, false))
	}
	for i := range r.Intn(7) {
		c := api.Contrib{Name: "c" + string(rune('a'+i)), Base: 1 + r.Intn(2), Bands: chanceBands(r, some(), size, true), Round: 1 + r.Intn(6)}
		if r.Intn(2) == 0 {
			c.PeriodCeil = min(r.Int63n(8*size), money)
		}
		if r.Intn(2) == 0 {
			c.YearCeil = min(r.Int63n(20*size), money)
		}
		x.Contribs = append(x.Contribs, c)
	}
	x.Kinds = []api.Kind{
		{Name: "salary", Cash: 1, Taxable: 1, Social: 1}, {Name: "car", Taxable: 1}, {Name: "saved", Cash: -1, Taxable: -1}, {Name: "cash", Cash: 1},
		{Name: "tip", Social: 1}, {Name: "back", Cash: -1}, {Name: "less", Cash: -1, Taxable: -1, Social: -1},
	}
	return x
}

// chanceCode: a code that fits a table, one in three alone.
func chanceCode(r *rand.Rand, x api.Table, size int64) api.Code {
	c := api.Code{Scheme: r.Intn(len(x.Schemes)), Kind: 1 + r.Intn(4), Alone: r.Intn(3) == 0}
	switch c.Kind {
	case api.CodeFree:
		c.Amount = r.Int63n(min(6*size/1000, 999999)+1) * 1000
	case api.CodeExtra:
		c.Amount = (1 + r.Int63n(min(6*size/1000, 999998)+1)) * 1000
	case api.CodeFlat:
		c.Flat = r.Intn(len(x.Schemes[c.Scheme]))
	}
	return c
}

// chanceElements: elements of a table's kinds.
func chanceElements(r *rand.Rand, x api.Table, size int64) []api.Element {
	var list []api.Element
	for range r.Intn(4) {
		list = append(list, of(x.Kinds[r.Intn(len(x.Kinds))].Name, r.Int63n(4*size)))
	}
	if r.Intn(2) == 0 {
		list = append(list, of("salary", r.Int63n(4*size)))
	}
	return list
}

// chance: an employee, some periods on, of whom some was corrected: the same at each run.
func chance(t *testing.T, r *rand.Rand, size int64) *run.Employee {
	t.Helper()
	x := chanceTable(r, size)
	y, e := period.New(1+r.Intn(4), api.Date{Year: 2023, Month: 4, Day: 6})
	must(t, e)
	p, e := run.New(x, y, chanceCode(r, x, size))
	must(t, e)
	for range r.Intn(4) {
		p.Pay(chanceElements(r, x, size)...)
		p.Run()
		if r.Intn(3) == 0 {
			p.Replace(1+r.Intn(4), chanceElements(r, x, size)...)
		}
		if r.Intn(4) == 0 {
			must(t, p.Code(chanceCode(r, x, size)))
		}
	}
	p.Pay(chanceElements(r, x, size)...)
	return p
}

// sizes: of corners and amounts.
var sizes = []int64{1, 10, 300, 20000, 5_000_000, 2_000_000_000, 30_000_000_000}

// state: all that an employee tells.
func state(p *run.Employee) string {
	return fmt.Sprint(p.Period(), p.Orders(), p.Inputs(), p.Next(), p.Posted().Slips(), p.Posted().Totals(), p.Table(), p.Year(), p.TaxCode(), p.Protected())
}

// kept tells a test's fault, if a call changes an employee.
func kept(t *testing.T, p *run.Employee, what string, call func()) {
	t.Helper()
	if p == nil {
		call()
		return
	}
	before := state(p)
	if call(); state(p) != before {
		t.Fatalf("%s changes %s to %s", what, before, state(p))
	}
}
