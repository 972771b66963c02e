package retro_test

import (
	"fmt"
	"math"
	"math/rand"
	"reflect"
	"slices"
	"strings"
	"testing"

	"stipend/api"
	"stipend/code"
	"stipend/element"
	"stipend/period"
	"stipend/retro"
	"stipend/run"
	"stipend/social"
	"stipend/table"
)

const top = 100_000_000_000 // as the document tells it

// edges: numbers at which something may go over.
var edges = []int64{math.MinInt64, math.MinInt64 + 1, -top - 1, -top, -top + 1, -100, -1, 0, 1, 2, 3, 50, 1000, top / 2, top - 1, top, top + 1, math.MaxInt64 - 1, math.MaxInt64}

var kinds = []string{"kind salary + + +", "kind car 0 + 0", "kind saved - - 0", "kind cash + 0 0", "kind tip 0 0 +", "kind back - 0 0"}

// read: the table of lines, with all kinds.
func read(t *testing.T, lines ...string) api.Table {
	t.Helper()
	x, n, e := table.Read(append(lines, kinds...)...)
	if e != api.OK {
		t.Fatalf("line %d: %v", n, e)
	}
	return x
}

// plain: a fifth of tax, a tenth of contributions of both sides.
func plain(t *testing.T) api.Table {
	t.Helper()
	return read(t, "limit 5000", "round down", "scheme 0.00:2000", "contrib care social down 0.00 0.00 0.00:1000:1000")
}

// tables: some of all kinds that are accepted.
func tables(t *testing.T) []api.Table {
	t.Helper()
	return []api.Table{
		plain(t),
		read(t, "limit 5000", "round halfup", "scheme 0.00:0 100.00:2000 300.00:4000", "contrib care social halfup 0.00 2500.00 0.00:500:700", "contrib fund taxable up 400.00 0.00 0.00:0:100 50.00:1000:333"),
		read(t, "limit 3333", "round halfeven", "scheme 0.00:1999 500.00:3001", "scheme 0.00:4501", "contrib care taxable halfdown 100.00 300.00 0.00:1:2 1.00:777:3"),
		read(t, "limit 8000", "round up", "scheme 0.00:100 10.00:0 20.00:5000"),
		read(t, "limit 100", "round inward", "scheme 0.00:2000", "scheme 0.00:10 0.05:20 0.07:30", "contrib a social down 0.00 0.00 0.00:100:0", "contrib b social up 5.00 6.00 0.00:101:1"),
	}
}

// coded: the code of a text.
func coded(t *testing.T, text string) api.Code {
	t.Helper()
	c, e := code.Parse(text)
	if e != api.OK {
		t.Fatalf("%s: %v", text, e)
	}
	return c
}

// hired: an employee of a table, without anything free.
func hired(t *testing.T, x api.Table, freq int) *run.Employee {
	t.Helper()
	y, e := period.New(freq, api.Date{Year: 2023, Month: 4, Day: 6})
	must(t, e)
	p, e := run.New(x, y, coded(t, "0L"))
	must(t, e)
	return p
}

// desk: a desk of an employee of a table, paid by the month.
func desk(t *testing.T, x api.Table) *retro.Desk {
	t.Helper()
	d, e := retro.New(hired(t, x, api.Monthly))
	if d == nil || e != api.OK {
		t.Fatalf("New: %v, %v", d, e)
	}
	return d
}

// all: elements, of a kind and an amount in turn, each once.
func all(list ...any) []api.Element {
	var elements []api.Element
	for i := 0; i+1 < len(list); i += 2 {
		elements = append(elements, api.Element{Kind: list[i].(string), Amount: int64(list[i+1].(int)), Units: element.Once})
	}
	return elements
}

// bases: these bases.
func bases(cash, taxable, social int64) api.Bases {
	return api.Bases{Cash: cash, Taxable: taxable, Social: social}
}

// same: are two answers the same, where lists of nothing are the same as none?
func same(a, b any) bool { return fmt.Sprintf("%+v", a) == fmt.Sprintf("%+v", b) }

// state: all that a desk tells.
func state(d *retro.Desk) string {
	text := fmt.Sprint(d.Fixes(), d.First(), d.Touched(), d.Period(), d.Orders(), d.Inputs(), d.Next(), d.Posted().Slips(), d.Table(), d.Year(), d.TaxCode(), d.Protected())
	for p := range len(d.Inputs()) + 1 {
		list, e := d.As(p)
		text += fmt.Sprint(list, e)
	}
	return text
}

// must tells a test's fault, if there is an error.
func must(t *testing.T, list ...api.Errno) {
	t.Helper()
	for i, e := range list {
		if e != api.OK {
			t.Fatalf("call %d: %v", i, e)
		}
	}
}

// paid: the next period, run with elements more.
func paid(t *testing.T, d *retro.Desk, list ...api.Element) api.Slip {
	t.Helper()
	must(t, d.Pay(list...))
	s, e := d.Run()
	must(t, e)
	return s
}

// elements: those of inputs.
func elements(list []run.Input) [][]api.Element {
	var all [][]api.Element
	for _, x := range list {
		all = append(all, x.Elements)
	}
	return all
}

// P23.1: a desk of an employee who was paid already.
func TestNew(t *testing.T) {
	if d, e := retro.New(nil); d != nil || e != api.ErrMissing {
		t.Errorf("New of none: %v, %v", d, e)
	}
	p := hired(t, plain(t), api.Monthly)
	must(t, p.Pay(all("salary", 1000)...))
	if _, e := p.Run(); e != api.OK {
		t.Fatal(e)
	}
	must(t, p.Replace(1, all("salary", 1500)...), p.Pay(all("tip", 7)...))
	d, e := retro.New(p)
	must(t, e)
	want := [][]api.Element{all("salary", 1500)}
	if got := d.First(); !same(elements(got), want) || got[0].Code != coded(t, "0L") {
		t.Errorf("First: %v", got)
	}
	if len(d.Fixes()) != 0 || len(d.Touched()) != 0 || d.Undo() != api.ErrMissing {
		t.Error("something was corrected")
	}
	// The employee is the desk's: what is done at it, is done to them.
	s, e := d.Run()
	if want := (api.Slip{Period: 2, Bases: bases(500, 500, 507), Tax: 100, Shares: []api.Share{{Employee: 50, Employer: 50}}, Net: 350, Pay: 350}); e != api.OK || !same(s, want) {
		t.Errorf("Run: %+v, %v, not %+v", s, e, want)
	}
	if p.Period() != 3 || d.Employee != p {
		t.Error("the employee isn't the desk's")
	}
	if got, e := d.As(2); e != api.OK || !same(elements(got), [][]api.Element{all("salary", 1500), all("tip", 7)}) {
		t.Errorf("As(2): %v, %v", got, e)
	}
}

// P23.1: Run is layer 21's, with its errors.
func TestRun(t *testing.T) {
	d := desk(t, plain(t))
	must(t, d.Pay(all("car", top)...))
	must(t, d.Order(api.Order{ID: 1, Amount: 100}))
	if s := paid(t, d, all("salary", 0)...); s.Taxable != top || s.Taken[0].Carried != 100 {
		t.Errorf("Run: %+v", s)
	}
	must(t, d.Pay(all("car", 1)...))
	was := state(d)
	if s, e := d.Run(); e != api.ErrOverflow || !same(s, api.Slip{}) || state(d) != was {
		t.Errorf("Run: %+v, %v", s, e)
	}
	must(t, d.Fix(1))
	for d.Period() != 0 {
		paid(t, d)
	}
	was = state(d)
	if s, e := d.Run(); e != api.ErrClosed || !same(s, api.Slip{}) || state(d) != was {
		t.Errorf("Run: %+v, %v", s, e)
	}
}

// P23.2: the chapter's example, and that what was posted stays.
func TestFixExample(t *testing.T) {
	for _, fix := range []func(*retro.Desk, int, ...api.Element) api.Errno{(*retro.Desk).Fix, (*retro.Desk).Replace} {
		d := desk(t, plain(t))
		paid(t, d, all("salary", 1000)...)
		posted, _ := d.Posted().Slip(1)
		must(t, fix(d, 1, all("salary", 2000)...))
		if got, _ := d.Posted().Slip(1); !same(got, posted) || d.Posted().Count() != 1 {
			t.Errorf("what was posted changed: %+v", got)
		}
		if got, want := d.Fixes(), []retro.Fix{{Period: 1, Elements: all("salary", 2000), At: 1}}; !same(got, want) {
			t.Errorf("Fixes: %v, not %v", got, want)
		}
		if got := d.First(); !same(elements(got), [][]api.Element{all("salary", 1000)}) {
			t.Errorf("First: %v", got)
		}
		if got := d.Inputs(); !same(elements(got), [][]api.Element{all("salary", 2000)}) {
			t.Errorf("Inputs: %v", got)
		}
		want := api.Slip{Period: 2, Bases: bases(1000, 1000, 1000), Tax: 200, Shares: []api.Share{{Employee: 100, Employer: 100}}, Net: 700, Pay: 700}
		if s, e := d.Run(); e != api.OK || !same(s, want) {
			t.Errorf("Run: %+v, %v, not %+v", s, e, want)
		}
	}
}

// P23.2: what may not be corrected, and what may, at how many corrections.
func TestFixRefuses(t *testing.T) {
	d := desk(t, plain(t))
	fixes := []func(int, ...api.Element) api.Errno{d.Fix, d.Replace}
	refused := func(name string, got, want api.Errno, was string) {
		t.Helper()
		if got != want {
			t.Errorf("%s: %v, not %v", name, got, want)
		}
		if now := state(d); now != was {
			t.Errorf("refused, %s changed something: %s, not %s", name, now, was)
		}
	}
	for _, k := range []int{math.MinInt, -1, 0, 1, 2, math.MaxInt} {
		was := state(d)
		for _, fix := range fixes {
			refused("Fix", fix(k, all("none", 1)...), api.ErrAhead, was)
		}
		refused("Change", d.Change(k, "none", 1), api.ErrAhead, was)
	}
	paid(t, d, all("salary", 10, "car", top-10)...)
	was := state(d)
	for _, fix := range fixes {
		refused("Fix", fix(2), api.ErrAhead, was)
		refused("Fix", fix(1, all("none", 1)...), api.ErrKind, was)
		refused("Fix", fix(1, slices.Repeat(all("none", 1), 33)...), api.ErrLong, was)
		refused("Fix", fix(1, api.Element{Kind: "car", Units: -1}), api.ErrRange, was)
		refused("Fix", fix(1, all("car", top, "car", 1)...), api.ErrOverflow, was)
	}
	refused("Change", d.Change(2, "salary", 1), api.ErrAhead, was)
	refused("Change", d.Change(1, "none", 1), api.ErrKind, was)
	refused("Change", d.Change(1, "salary", 11), api.ErrOverflow, was)
	refused("Change", d.Change(1, "salary", top+1), api.ErrOverflow, was)
	must(t, d.Change(1, "none", 0)) // takes out what isn't there
	for i := 1; i < retro.Most; i++ {
		must(t, d.Fix(1, all("salary", i)...))
	}
	if n := len(d.Fixes()); n != 256 {
		t.Errorf("%d corrections are kept", n)
	}
	was = state(d)
	for _, fix := range fixes {
		refused("Fix", fix(1), api.ErrLong, was)
		refused("Fix", fix(2, all("none", 1)...), api.ErrLong, was)
	}
	refused("Change", d.Change(2, "salary", 1), api.ErrAhead, was)
	refused("Change", d.Change(1, "none", 1), api.ErrLong, was)
	refused("Undo", d.Undo(), api.ErrLong, was)
	if x, e := d.Effect(1); e != api.OK || x.Cash != -255 {
		t.Errorf("Effect: %+v, %v", x, e)
	}
	for d.Period() != 0 {
		paid(t, d)
	}
	was = state(d)
	refused("Fix", d.Fix(1), api.ErrLong, was)
}

// P23.2: when the year is over, nothing is corrected any more.
func TestFixClosed(t *testing.T) {
	d := desk(t, plain(t))
	paid(t, d, all("salary", 5)...)
	must(t, d.Fix(1, all("salary", 6)...))
	for d.Period() != 0 {
		paid(t, d)
	}
	was := state(d)
	for i, c := range []struct{ got, want api.Errno }{{d.Fix(1, all("none", 1)...), api.ErrClosed}, {d.Replace(12), api.ErrClosed}, {d.Fix(13), api.ErrAhead}, {d.Change(12, "none", 5), api.ErrClosed}, {d.Change(13, "salary", 5), api.ErrAhead}, {d.Undo(), api.ErrClosed}} {
		if c.got != c.want {
			t.Errorf("%d: %v, not %v", i, c.got, c.want)
		}
	}
	if _, e := d.Effect(1); e != api.ErrClosed || state(d) != was {
		t.Errorf("Effect: %v", e)
	}
}

// P23.2: another amount of a kind, of what the period is paid by now.
func TestChange(t *testing.T) {
	d := desk(t, plain(t))
	paid(t, d, all("salary", 1000, "car", 5, "salary", 7, "tip", 9)...)
	for i, c := range []struct {
		kind   string
		amount int64
		want   []api.Element
	}{
		{"salary", 2000, all("salary", 2000, "car", 5, "tip", 9)},
		{"car", 0, all("salary", 2000, "tip", 9)},
		{"cash", 3, all("salary", 2000, "tip", 9, "cash", 3)},
		{"salary", 1, all("salary", 1, "tip", 9, "cash", 3)},
	} {
		must(t, d.Change(1, c.kind, c.amount))
		if got := d.Inputs()[0].Elements; !element.Same(got, c.want) {
			t.Errorf("%d: %v, not %v", i, got, c.want)
		}
		if got := d.Fixes(); len(got) != i+1 || !same(got[i], retro.Fix{Period: 1, Elements: c.want, At: 1}) {
			t.Errorf("%d: %v", i, got)
		}
	}
}

// P23.3: what the first periods were run by, as they were corrected ahead of the run of the last of them.
func TestAs(t *testing.T) {
	d := desk(t, plain(t))
	as := func(p int, want ...[]api.Element) {
		t.Helper()
		if got, e := d.As(p); e != api.OK || !same(elements(got), want) {
			t.Errorf("As(%d): %v, %v, not %v", p, got, e, want)
		}
	}
	none := all()
	as(0)
	paid(t, d, all("salary", 1)...)
	must(t, d.Fix(1, all("salary", 2)...), d.Fix(1, all("salary", 3)...))
	as(1, all("salary", 1)) // corrected behind its run
	must(t, d.Code(coded(t, "NT")))
	paid(t, d, all("salary", 10)...)
	as(2, all("salary", 3), all("salary", 10))
	must(t, d.Fix(2, all("tip", 20)...), d.Fix(1, all("tip", 4)...), d.Fix(1))
	as(2, all("salary", 3), all("salary", 10))
	paid(t, d, all("salary", 100)...)
	as(3, none, all("tip", 20), all("salary", 100))
	must(t, d.Undo()) // the first period as it was ahead of the last correction
	as(3, none, all("tip", 20), all("salary", 100))
	paid(t, d)
	as(4, all("tip", 4), all("tip", 20), all("salary", 100), none)
	// What was told of the first ones stays.
	as(0)
	as(1, all("salary", 1))
	as(2, all("salary", 3), all("salary", 10))
	as(3, none, all("tip", 20), all("salary", 100))
	if got := d.First(); !same(elements(got), [][]api.Element{all("salary", 1), all("salary", 10), all("salary", 100), none}) || got[0].Code != coded(t, "0L") || got[1].Code != coded(t, "NT") {
		t.Errorf("First: %v", got)
	}
	if got, _ := d.As(2); got[0].Code != coded(t, "0L") || got[1].Code != coded(t, "NT") {
		t.Errorf("As(2): %v", got)
	}
	for _, p := range []int{math.MinInt, -1, 5, 12, math.MaxInt} {
		if got, e := d.As(p); e != api.ErrAhead || got != nil {
			t.Errorf("As(%d): %v, %v", p, got, e)
		}
	}
}

// P23.3: of periods that the employee was run past the desk, too, what they were run by is told.
func TestPast(t *testing.T) {
	p := hired(t, plain(t), api.Monthly)
	d, e := retro.New(p)
	must(t, e, p.Pay(all("salary", 5)...))
	_, e = p.Run()
	must(t, e)
	if got := d.First(); !same(elements(got), [][]api.Element{all("salary", 5)}) {
		t.Errorf("First: %v", got)
	}
	must(t, d.Fix(1, all("salary", 6)...))
	if got, e := d.As(1); e != api.OK || !same(elements(got), [][]api.Element{all("salary", 5)}) || !slices.Equal(d.Touched(), []int{1}) {
		t.Errorf("As(1): %v, %v", got, e)
	}
	// Corrected past the desk, they were run by what they were run by.
	d, e = retro.New(p)
	must(t, e, p.Replace(1, all("tip", 1)...))
	paid(t, d, all("salary", 7)...)
	must(t, p.Replace(2, all("tip", 2)...))
	if got := d.First(); !same(elements(got), [][]api.Element{all("salary", 6), all("salary", 7)}) || !slices.Equal(d.Touched(), []int{1, 2}) || len(d.Fixes()) != 0 {
		t.Errorf("First: %v", got)
	}
}

// P23.4: by how much the next payslip changes.
func TestEffect(t *testing.T) {
	d := desk(t, plain(t))
	paid(t, d, all("salary", 1000)...)
	must(t, d.Pay(all("salary", 300)...), d.Order(api.Order{ID: 1, Amount: 50}))
	was := state(d)
	for _, c := range []struct {
		list []api.Element
		want retro.Effect
	}{
		{all("salary", 2000), retro.Effect{Bases: bases(1000, 1000, 1000), Tax: 200, Shares: social.Row{{Employee: 100, Employer: 100}}, Net: 700}},
		{all("salary", 1000), retro.Effect{Shares: social.Row{{}}}},
		{all("salary", 900, "car", 100, "tip", 100, "cash", 100), retro.Effect{Shares: social.Row{{}}}},
		{all("salary", 1000, "car", 2000), retro.Effect{Bases: bases(0, 2000, 0), Tax: 90, Shortfall: 310, Shares: social.Row{{}}, Net: -90}},
		{all("salary", 900), retro.Effect{Bases: bases(-100, -100, -100), Tax: -20, Shares: social.Row{{Employee: -10, Employer: -10}}, Net: -70}},
		{nil, retro.Effect{Bases: bases(-1000, -1000, -1000), Tax: -200, Shares: social.Row{{Employee: -100, Employer: -100}}, Net: -700}},
	} {
		got, e := d.Effect(1, c.list...)
		if e != api.OK || !same(got, c.want) {
			t.Errorf("Effect(%v): %+v, %v, not %+v", c.list, got, e, c.want)
		}
		if now := state(d); now != was {
			t.Fatalf("Effect changed something: %s, not %s", now, was)
		}
	}
	// What was corrected already is in both payslips.
	must(t, d.Fix(1, all("salary", 1500)...))
	if got, e := d.Effect(1, all("salary", 1600)...); e != api.OK || got.Cash != 100 || got.Net != 70 {
		t.Errorf("Effect: %+v, %v", got, e)
	}
}

// P23.4: the first error of an effect; amounts that may not be changed by so much.
func TestEffectRefuses(t *testing.T) {
	refused := func(d *retro.Desk, want api.Errno, k int, list ...api.Element) {
		t.Helper()
		was := state(d)
		if x, e := d.Effect(k, list...); e != want || !reflect.DeepEqual(x, retro.Effect{}) {
			t.Errorf("Effect(%d, %v): %+v, %v, not %v", k, list, x, e, want)
		}
		if state(d) != was {
			t.Error("refused, Effect changed something")
		}
	}
	d := desk(t, plain(t))
	for _, k := range []int{math.MinInt, 0, 1, math.MaxInt} {
		refused(d, api.ErrAhead, k, all("none", 1)...)
	}
	paid(t, d)
	refused(d, api.ErrKind, 1, all("none", 1)...)
	refused(d, api.ErrLong, 1, slices.Repeat(all("none", 1), 33)...)
	must(t, d.Pay(all("car", 5)...))
	refused(d, api.ErrOverflow, 1, all("car", top+1)...)
	refused(d, api.ErrOverflow, 1, all("car", top-4)...) // the payslip itself: Try of who was so corrected
	if x, e := d.Effect(1, all("car", top-5)...); e != api.OK || x.Taxable != top-5 {
		t.Errorf("Effect: %+v, %v", x, e)
	}
	must(t, d.Pay(all("car", top)...))
	refused(d, api.ErrOverflow, 2, all("none", 1)...) // Try is asked first
	// By how much the cash is more.
	d = desk(t, plain(t))
	paid(t, d)
	must(t, d.Fix(1, all("back", top)...))
	refused(d, api.ErrOverflow, 1, all("cash", 1)...)
	if x, e := d.Effect(1); e != api.OK || x.Cash != top || x.Net != top {
		t.Errorf("Effect: %+v, %v", x, e)
	}
	// By how much the net pay is less, where the cash isn't by more than the most.
	d = desk(t, plain(t))
	paid(t, d, all("tip", 100)...)
	must(t, d.Fix(1))
	refused(d, api.ErrOverflow, 1, all("back", top, "tip", 100)...)
	if x, e := d.Effect(1, all("back", top-10, "tip", 100)...); e != api.OK || x.Net != -top {
		t.Errorf("Effect: %+v, %v", x, e)
	}
}

// P23.4: an effect of nothing.
func TestNone(t *testing.T) {
	for _, x := range []retro.Effect{{}, {Shares: social.Row{}}, {Shares: social.Row{{}, {}}}} {
		if !x.None() {
			t.Errorf("%+v changes something", x)
		}
	}
	for _, x := range []retro.Effect{
		{Bases: bases(1, 0, 0)}, {Bases: bases(0, -1, 0)}, {Bases: bases(0, 0, math.MinInt64)}, {Tax: 1}, {Shortfall: -1}, {Net: 1},
		{Shares: social.Row{{Employee: 1}}}, {Shares: social.Row{{}, {Employer: -1}}}, {Bases: bases(1, -1, 0), Tax: -1, Net: 1},
	} {
		if x.None() {
			t.Errorf("%+v changes nothing", x)
		}
	}
}

// P23.6: the last correction taken back, by another one.
func TestUndo(t *testing.T) {
	d := desk(t, plain(t))
	now := func(want ...[]api.Element) {
		t.Helper()
		if got := d.Inputs(); !same(elements(got), want) {
			t.Errorf("Inputs: %v, not %v", got, want)
		}
	}
	paid(t, d, all("salary", 1)...)
	if e := d.Undo(); e != api.ErrMissing {
		t.Errorf("Undo: %v", e)
	}
	paid(t, d, all("salary", 10)...)
	must(t, d.Fix(1, all("salary", 2)...), d.Fix(2, all("salary", 20)...), d.Fix(1, all("salary", 3)...))
	must(t, d.Undo())
	now(all("salary", 2), all("salary", 20))
	must(t, d.Undo()) // takes back what took back
	now(all("salary", 3), all("salary", 20))
	must(t, d.Fix(2, all("salary", 30)...), d.Undo())
	now(all("salary", 3), all("salary", 20))
	want := []retro.Fix{{Period: 1, Elements: all("salary", 2), At: 2}, {Period: 2, Elements: all("salary", 20), At: 2}, {Period: 1, Elements: all("salary", 3), At: 2}, {Period: 1, Elements: all("salary", 2), At: 2}, {Period: 1, Elements: all("salary", 3), At: 2}, {Period: 2, Elements: all("salary", 30), At: 2}, {Period: 2, Elements: all("salary", 20), At: 2}}
	if got := d.Fixes(); !same(got, want) {
		t.Errorf("Fixes: %v, not %v", got, want)
	}
	// Of a period that was corrected once it is what it was run by.
	d = desk(t, plain(t))
	paid(t, d, all("salary", 1)...)
	must(t, d.Fix(1, all("salary", 2)...))
	paid(t, d)
	must(t, d.Undo())
	now(all("salary", 1), all())
	if got := d.Fixes(); len(got) != 2 || got[1].At != 2 || got[1].Period != 1 {
		t.Errorf("Fixes: %v", got)
	}
	// What may not be: by now the year has no room for it.
	d = desk(t, plain(t))
	paid(t, d, all("car", top)...)
	must(t, d.Fix(1))
	paid(t, d, all("car", 1)...)
	was := state(d)
	if e := d.Undo(); e != api.ErrOverflow || state(d) != was {
		t.Errorf("Undo: %v", e)
	}
}

// P23.6: the periods that are paid by other elements.
func TestTouched(t *testing.T) {
	d := desk(t, plain(t))
	touched := func(want ...int) {
		t.Helper()
		if got := d.Touched(); !slices.Equal(got, want) {
			t.Errorf("Touched: %v, not %v", got, want)
		}
	}
	touched()
	for i := range 4 {
		paid(t, d, all("salary", 10+i, "tip", 5)...)
	}
	touched()
	must(t, d.Fix(3, all("salary", 1)...), d.Fix(1), d.Fix(2, all("tip", 5, "salary", 11)...))
	touched(1, 2, 3) // in another order they are others
	must(t, d.Fix(3, all("salary", 12, "tip", 5)...))
	touched(1, 2)
	must(t, d.Fix(1, append(all("salary", 10), api.Element{Kind: "tip", Amount: 500, Units: 1})...))
	touched(1, 2)
	must(t, d.Undo(), d.Change(1, "salary", 10), d.Change(1, "tip", 5))
	touched(2)
}

// P23.6: an effect, line by line.
func TestLines(t *testing.T) {
	x := read(t, "limit 5000", "round down", "scheme 0.00:2000", "contrib care social down 0.00 0.00 0.00:1000:1000", "contrib fund social down 0.00 0.00 0.00:0:1000", "contrib x9 social down 0.00 0.00 0.00:10:0")
	full := retro.Effect{Bases: bases(1, -200, 31234), Tax: -5, Shortfall: 6, Shares: social.Row{{Employee: 7}, {}, {Employee: -8, Employer: 9}}, Net: 10}
	for _, c := range []struct {
		t    api.Table
		x    retro.Effect
		want string
	}{
		{x, full, "cash 0.01,taxable -2.00,social 312.34,tax -0.05,short 0.06,net 0.10,share care 0.07 0.00,share x9 -0.08 0.09"},
		{plain(t), full, "cash 0.01,taxable -2.00,social 312.34,tax -0.05,short 0.06,net 0.10"},
		{api.Table{}, full, "cash 0.01,taxable -2.00,social 312.34,tax -0.05,short 0.06,net 0.10"},
		{x, retro.Effect{}, ""},
		{x, retro.Effect{Shares: social.Row{{}, {Employer: 1}, {}}}, "share fund 0.00 0.01"},
		{x, retro.Effect{Shares: make(social.Row, 3)}, ""},
		{x, retro.Effect{Bases: bases(0, 0, 1), Net: math.MinInt64}, "social 0.01,net -92233720368547758.08"},
		{x, retro.Effect{Tax: 100}, "tax 1.00"},
		{x, retro.Effect{Shortfall: -100}, "short -1.00"},
	} {
		if got := strings.Join(c.x.Lines(c.t), ","); got != c.want {
			t.Errorf("Lines of %+v: %s, not %s", c.x, got, c.want)
		}
	}
}

// model is a desk of which all is kept plainly: the employee, what each period was run by, and each correction.
type model struct {
	p     *run.Employee
	first []run.Input
	fixes []retro.Fix
}

// as: what the first periods were paid by, each by the last one of its corrections that was made ahead of a run.
func (m *model) as(p int) []run.Input {
	list := slices.Clone(m.first[:p])
	for _, f := range m.fixes {
		if f.At < p {
			list[f.Period-1].Elements = f.Elements
		}
	}
	return list
}

// fix: a correction, if it may be.
func (m *model) fix(k int, list []api.Element) api.Errno {
	e := m.p.Replace(k, list...)
	if e == api.OK {
		m.fixes = append(m.fixes, retro.Fix{Period: k, Elements: list, At: len(m.first)})
	}
	return e
}

// undo: the last correction taken back.
func (m *model) undo() api.Errno {
	if len(m.fixes) == 0 {
		return api.ErrMissing
	}
	last := m.fixes[len(m.fixes)-1]
	list := m.first[last.Period-1].Elements
	for _, f := range m.fixes[:len(m.fixes)-1] {
		if f.Period == last.Period {
			list = f.Elements
		}
	}
	return m.fix(last.Period, list)
}

// clone: a model of its own.
func (m *model) clone() *model {
	return &model{p: m.p.Clone(), first: slices.Clone(m.first), fixes: slices.Clone(m.fixes)}
}

// stands tells a test's fault, if a desk isn't as the model is.
func stands(t *testing.T, d *retro.Desk, m *model) {
	t.Helper()
	if !same(d.First(), m.first) || !same(d.Fixes(), m.fixes) || !same(d.Inputs(), m.p.Inputs()) {
		t.Fatalf("%v, %v, %v: not %v, %v, %v", d.First(), d.Fixes(), d.Inputs(), m.first, m.fixes, m.p.Inputs())
	}
	if !same(d.Posted().Slips(), m.p.Posted().Slips()) || !same(d.Orders(), m.p.Orders()) || d.Period() != m.p.Period() || d.TaxCode() != m.p.TaxCode() {
		t.Fatalf("%v, not %v", d.Posted().Slips(), m.p.Posted().Slips())
	}
	var touched []int
	for i, x := range m.p.Inputs() {
		if !slices.Equal(x.Elements, m.first[i].Elements) {
			touched = append(touched, i+1)
		}
	}
	if got := d.Touched(); !slices.Equal(got, touched) {
		t.Fatalf("Touched: %v, not %v", got, touched)
	}
	for p := range len(m.first) + 1 {
		if got, e := d.As(p); e != api.OK || !same(got, m.as(p)) {
			t.Fatalf("As(%d): %v, %v, not %v", p, got, e, m.as(p))
		}
	}
}

// chance: elements by chance.
func chance(r *rand.Rand, x api.Table) []api.Element {
	var list []api.Element
	for range r.Intn(4) {
		e := api.Element{Kind: x.Kinds[r.Intn(len(x.Kinds))].Name, Amount: r.Int63n(20_000) - 4000, Units: element.Once}
		if r.Intn(3) == 0 {
			e.Units = r.Int63n(300)
		}
		list = append(list, e)
	}
	return list
}

// step: the same thing, by chance, at a desk and to the model.
func step(t *testing.T, r *rand.Rand, d *retro.Desk, m *model) {
	t.Helper()
	both := func(got, want api.Errno) {
		t.Helper()
		if got != want {
			t.Fatalf("%v, not %v", got, want)
		}
	}
	k, list := 1+r.Intn(len(m.first)+1), chance(r, d.Table())
	switch r.Intn(9) {
	case 0:
		c := coded(t, []string{"0L", "12L", "12LX", "K12", "D0", "NT", "NTX"}[r.Intn(7)])
		both(d.Code(c), m.p.Code(c))
	case 1:
		o := api.Order{ID: 1 + r.Intn(5), Priority: r.Intn(3), Amount: 1 + r.Int63n(3000)}
		both(d.Order(o), m.p.Order(o))
	case 2, 3:
		both([]func(int, ...api.Element) api.Errno{d.Fix, d.Replace}[r.Intn(2)](k, list...), m.fix(k, list))
	case 4:
		if k <= len(m.first) {
			kind := d.Table().Kinds[r.Intn(6)].Name
			both(d.Change(k, kind, int64(len(list))), m.fix(k, element.Change(kind, int64(len(list)), m.p.Inputs()[k-1].Elements...)))
		}
	case 5:
		both(d.Undo(), m.undo())
	case 6:
		effect(t, d, m, k, list)
	default:
		both(d.Pay(list...), m.p.Pay(list...))
		input := run.Input{Code: m.p.TaxCode(), Elements: m.p.Next()}
		got, e := d.Run()
		want, wrong := m.p.Run()
		if both(e, wrong); e == api.OK {
			m.first = append(m.first, input)
		}
		if !same(got, want) {
			t.Fatalf("Run: %+v, not %+v", got, want)
		}
	}
}

// effect: what an effect tells, against payslips of the model.
func effect(t *testing.T, d *retro.Desk, m *model, k int, list []api.Element) {
	t.Helper()
	got, e := d.Effect(k, list...)
	was, e1 := m.p.Try(0)
	twin := m.p.Clone()
	e2 := twin.Replace(k, list...)
	now, e3 := twin.Try(0)
	if want := append(slices.DeleteFunc([]api.Errno{e1, e2, e3}, func(e api.Errno) bool { return e == api.OK }), api.OK)[0]; e != want {
		t.Fatalf("Effect: %v, not %v", e, want)
	}
	if e != api.OK {
		return
	}
	want := retro.Effect{Bases: bases(now.Cash-was.Cash, now.Taxable-was.Taxable, now.Social-was.Social), Tax: now.Tax - was.Tax, Shortfall: now.Shortfall - was.Shortfall, Net: now.Net - was.Net}
	none := same(now, was)
	for i, s := range now.Shares {
		want.Shares = append(want.Shares, api.Share{Employee: s.Employee - was.Shares[i].Employee, Employer: s.Employer - was.Shares[i].Employer})
	}
	if !same(got, want) || got.None() != none || none != (len(got.Lines(d.Table())) == 0) {
		t.Fatalf("Effect: %+v, not %+v", got, want)
	}
}

// due: at the end of each period what is due is what it is of an employee who was paid from the first by what As tells.
func due(t *testing.T, d *retro.Desk) {
	t.Helper()
	for k := range d.Posted().Count() + 1 {
		list, e := d.As(k)
		must(t, e)
		p, e := run.New(d.Table(), d.Year(), coded(t, "NT"))
		must(t, e)
		for _, x := range list {
			must(t, p.Code(x.Code), p.Pay(x.Elements...))
			_, e := p.Run()
			must(t, e)
		}
		got, e := d.Posted().Upto(k)
		must(t, e)
		want := p.Posted().Totals()
		if got.Bases != want.Bases || got.Tax+got.Shortfall != want.Tax+want.Shortfall || !slices.Equal(got.Shares, want.Shares) {
			t.Fatalf("by the end of %d is due %+v, not %+v", k, got, want)
		}
	}
}

// P23.1 to P23.6: desks of all kinds, step by step, against the model; clones are of their own; what is due is the same.
func TestMany(t *testing.T) {
	r := rand.New(rand.NewSource(23))
	for round := range 80 {
		p := hired(t, tables(t)[round%5], 1+r.Intn(4))
		m := &model{p: p.Clone()}
		d, e := retro.New(p)
		must(t, e)
		for range 10 + r.Intn(60) {
			step(t, r, d, m)
			if r.Intn(12) == 0 {
				twin, was := d.Clone(), m.clone()
				stands(t, twin, was)
				step(t, r, twin, was)
				step(t, r, twin, was)
				stands(t, twin, was)
			}
			stands(t, d, m)
		}
		due(t, d)
	}
}

// spoil changes all lists of inputs, their spare room too.
func spoil(list []run.Input) {
	for i := range list[:cap(list)] {
		x := list[:cap(list)][i].Elements
		clear(x[:cap(x)])
	}
	clear(list[:cap(list)])
}

// P2: nothing that is handed in is changed or kept, and answers are of their own.
func TestMemory(t *testing.T) {
	d := desk(t, plain(t))
	paid(t, d, all("salary", 1000, "tip", 5)...)
	paid(t, d, all("salary", 1000)...)
	list := append(all("salary", 100, "car", 200, "tip", 300), api.Element{Kind: "spare"})
	was := slices.Clone(list)
	must(t, d.Fix(1, list[:3]...), d.Replace(2, list[:2]...), d.Change(2, "tip", 5), d.Undo())
	x, e := d.Effect(1, list[1:2]...)
	must(t, e)
	if !slices.Equal(list, was) {
		t.Errorf("a list was changed: %v", list)
	}
	clear(list)
	paid(t, d)
	must(t, d.Fix(3))
	told := state(d)
	if want := [][]api.Element{was[:3], was[:2], nil}; !same(elements(d.Inputs()), want) || !same(d.Fixes()[0].Elements, was[:3]) {
		t.Errorf("what was handed in is kept: %v", d.Inputs())
	}
	twin := d.Clone()
	for _, who := range []*retro.Desk{d, twin} {
		spoil(who.First())
		spoil(who.Inputs())
		for p := range 4 {
			list, _ := who.As(p)
			spoil(list)
		}
		for _, f := range who.Fixes() {
			clear(f.Elements[:cap(f.Elements)])
		}
		fixes := who.Fixes()
		clear(fixes[:cap(fixes)])
		clear(who.Touched())
		if got := state(who); got != told {
			t.Errorf("an answer shares memory with what is kept: %s, not %s", got, told)
		}
	}
	clear(x.Shares[:cap(x.Shares)])
	if again, e := d.Effect(1, was[1:2]...); e != api.OK || again.None() || again.Shares[0] == (api.Share{}) {
		t.Errorf("Effect: %+v, %v", again, e)
	}
	lines := x.Lines(plain(t))
	clear(lines[:cap(lines)])
	// What is done at the one desk, the other one doesn't tell.
	must(t, twin.Fix(1), twin.Undo(), twin.Pay(all("salary", 1)...))
	paid(t, twin)
	if state(d) != told {
		t.Errorf("the clone shares memory: %s, not %s", state(d), told)
	}
	told = state(twin)
	must(t, d.Fix(2), d.Undo(), d.Pay(all("salary", 2)...))
	paid(t, d)
	if state(twin) != told {
		t.Errorf("the clone shares memory: %s, not %s", state(twin), told)
	}
}

// wild: elements of any amounts.
func wild(r *rand.Rand, x api.Table) []api.Element {
	list := chance(r, x)
	if len(list) > 0 && r.Intn(3) == 0 {
		list[0] = api.Element{Kind: list[0].Kind, Amount: edges[r.Intn(len(edges))], Units: []int64{100, 100, 0, -1, 100_000, 100_001, math.MinInt64}[r.Intn(7)]}
	}
	if r.Intn(20) == 0 {
		list = slices.Repeat(append(list, api.Element{Kind: "\xff"}), 12)
	}
	return list
}

// P1, P2: no call panics, whatever it is given; beside an error all is zero; what is refused changes nothing; the same calls answer the same.
func TestEnds(t *testing.T) {
	for seed := range int64(300) {
		if a, b := ends(t, seed), ends(t, seed); a != b {
			t.Fatalf("the same calls answer otherwise: %s, %s", a, b)
		}
	}
}

// ends: what calls by chance answer.
func ends(t *testing.T, seed int64) (text string) {
	t.Helper()
	defer func() {
		if why := recover(); why != nil {
			t.Fatalf("%d: %v", seed, why)
		}
	}()
	r := rand.New(rand.NewSource(seed))
	number := func() int64 { return edges[r.Intn(len(edges))] }
	x := tables(t)[seed%5]
	d, e := retro.New(hired(t, x, 1+r.Intn(4)))
	must(t, e)
	for range 25 {
		was := state(d)
		s, effect, list, e := api.Slip{}, retro.Effect{}, []run.Input(nil), api.OK
		switch r.Intn(8) {
		case 0:
			e = d.Fix(int(number()), wild(r, x)...)
		case 1:
			e = d.Replace(int(number()), wild(r, x)...)
		case 2:
			e = d.Change(int(number()), []string{"salary", "tip", "none", "\xff"}[r.Intn(4)], number())
		case 3:
			e = d.Undo()
		case 4:
			effect, e = d.Effect(int(number()), wild(r, x)...)
		case 5:
			list, e = d.As(int(number()))
		default:
			if e = d.Pay(wild(r, x)...); e == api.OK {
				was = state(d)
				s, e = d.Run()
			}
		}
		if e != api.OK && (state(d) != was || !reflect.DeepEqual(s, api.Slip{}) || !reflect.DeepEqual(effect, retro.Effect{}) || list != nil) {
			t.Errorf("%v changed something, or beside it is %v, %v, %v: %s, not %s", e, s, effect, list, state(d), was)
		}
		wilder := retro.Effect{Bases: bases(number(), number(), number()), Shares: make(social.Row, r.Intn(4)), Net: number()}
		text += fmt.Sprint(e, s, effect, list, state(d), wilder.None(), wilder.Lines(x), wilder.Lines(api.Table{Contribs: make([]api.Contrib, 2)}))
	}
	return text
}
