package front_test

import (
	"fmt"
	"slices"
	"strings"
	"testing"

	"stipend/api"
	"stipend/front"
	"stipend/post"
	"stipend/retro"
	"stipend/run"
	"stipend/script"
	"stipend/table"
)

// state: all that an office tells.
func state(o *front.Office) string {
	name, ok := o.Check()
	text := fmt.Sprintf("%v %d %q %q %q %+v %q %v\n", o.Open(), o.Lines(), o.People(), o.Books(), table.Lines(o.Table()), o.Table(), name, ok)
	for _, name := range o.People() {
		text += name + " " + stateOf(o.Find(name)) + "\n"
	}
	return text
}

// stateOf: all that a desk tells.
func stateOf(d *retro.Desk) string {
	return fmt.Sprintf("%+v", []any{d.Fixes(), d.First(), d.Touched(), d.Period(), d.Orders(), d.Inputs(), d.Next(), d.Posted().Slips(), d.Posted().Totals(), d.Table(), *d.Year(), d.TaxCode(), d.Protected()})
}

// does tells a test's fault, if a line isn't done, or says something else.
func does(t *testing.T, o *front.Office, line string, want ...string) {
	t.Helper()
	before := o.Lines()
	said, e := o.Do(line)
	if !slices.Equal(said, want) || e != api.OK || o.Lines() != before+1 {
		t.Errorf("%s: says %q, %v, %d lines done, not %q, %d", line, said, e, o.Lines(), want, before+1)
	}
	checks(t, o, line)
}

// refuses tells a test's fault, if a line has another error, says something, or changes the office.
func refuses(t *testing.T, o *front.Office, line string, want api.Errno) {
	t.Helper()
	before := state(o)
	if said, e := o.Do(line); len(said) > 0 || e != want {
		t.Errorf("%s: says %q, %v, not %v", line, said, e, want)
	}
	if after := state(o); after != before {
		t.Errorf("%s changes %s to %s", line, before, after)
	}
}

// checks tells a test's fault, if an office doesn't hang together.
func checks(t *testing.T, o *front.Office, behind string) {
	t.Helper()
	if name, ok := o.Check(); name != "" || !ok {
		t.Errorf("Check behind %q: %q %v", behind, name, ok)
	}
}

// set: an office with these lines of the table, that isn't open.
func set(t *testing.T, lines ...string) *front.Office {
	t.Helper()
	o := front.New()
	for _, line := range lines {
		does(t, o, "set "+line)
	}
	return o
}

// opened: an open office with these lines of the table, paid by the month, and an employee, ann, without anything free.
func opened(t *testing.T, lines ...string) *front.Office {
	t.Helper()
	o := set(t, lines...)
	does(t, o, "open monthly 2024-04-06")
	does(t, o, "hire ann 0L")
	return o
}

// plain: the document's example: a fifth of tax, a tenth of a contribution, half of that of the employer's.
var plain = []string{"limit 5000", "round down", "scheme 0.00:2000", "contrib care social down 0.00 0.00 0.00:1000:500", "kind salary + + +", "kind hourly + + +", "kind car 0 + 0", "kind saved - - 0"}

// says tells a test's fault, if a script says something else.
func says(t *testing.T, o *front.Office, text string, want ...string) {
	t.Helper()
	if said, e := o.Run(text); !slices.Equal(said, want) || e != api.OK {
		t.Errorf("%s\nsays %q, %v, not %q", text, said, e, want)
	}
	checks(t, o, text)
}

func TestLimits(t *testing.T) {
	if front.MaxPeople != 16 || front.MaxText != 65536 {
		t.Error(front.MaxPeople, front.MaxText)
	}
}

// The document's example.
func TestExample(t *testing.T) {
	o := opened(t, plain...)
	does(t, o, "pay ann salary 10.00")
	does(t, o, "run ann", "period 1", "cash 10.00", "taxable 10.00", "social 10.00", "tax 2.00 0.00", "share care 1.00 0.50", "net 7.00", "pay 7.00")
	does(t, o, "gross ann 7.00", "gross 9.98 net 7.00")
}

// The document's examples of the whole, from 6 on, as scripts.
func TestExamples(t *testing.T) {
	limited := opened(t, "limit 5000", "round down", "scheme 0.00:7921", "kind salary + + +")
	says(t, limited, "pay ann salary 1.01\nrun ann", "period 1", "cash 1.01", "taxable 1.01", "social 1.01", "tax 0.50 0.30", "net 0.51", "pay 0.51")

	under := opened(t, "limit 0", "round down", "scheme 0.00:0", "contrib care social down 10.00 25.00 0.00:500:0", "kind salary + + +")
	for k, share := range []string{"0.50", "0.50", "0.25", "0.00"} {
		does(t, under, "pay ann salary 20.00")
		said, e := under.Do("run ann")
		if e != api.OK || len(said) != 8 || said[5] != "share care "+share+" 0.00" {
			t.Errorf("period %d: %q %v", k+1, said, e)
		}
	}

	ordered := opened(t, "limit 0", "round down", "scheme 0.00:0", "kind salary + + +")
	says(t, ordered, "order ann 2 1 0.50 0 0.00\norder ann 1 1 0.50 0 0.00\nprotect ann 0.50\npay ann salary 1.45\nrun ann", "period 1", "cash 1.45", "taxable 1.45", "social 1.45", "tax 0.00 0.00", "net 1.45", "order 1 0.00 0.50 0.50 0.00", "order 2 0.00 0.50 0.45 0.05", "pay 0.50")
	says(t, ordered, "pay ann salary 1.30\nrun ann", "period 2", "cash 1.30", "taxable 1.30", "social 1.30", "tax 0.00 0.00", "net 1.30", "order 1 0.00 0.50 0.50 0.00", "order 2 0.05 0.50 0.30 0.25", "pay 0.50")

	fixed := opened(t, "limit 5000", "round down", "scheme 0.00:2000", "kind salary + + +")
	says(t, fixed, "pay ann salary 10.00\nrun ann", "period 1", "cash 10.00", "taxable 10.00", "social 10.00", "tax 2.00 0.00", "net 8.00", "pay 8.00")
	says(t, fixed, "fix ann 1 salary 20.00\npay ann salary 10.00\nrun ann", "period 2", "cash 20.00", "taxable 20.00", "social 20.00", "tax 4.00 0.00", "net 16.00", "pay 16.00")

	least := opened(t, "limit 5000", "round down", "scheme 0.00:2000", "contrib care social up 5.00 0.00 0.00:1000:0", "kind salary + + +")
	says(t, least, "gross ann 2.80", "gross 3.99 net 2.80")
}

// P30.1: an office that was just made.
func TestNew(t *testing.T) {
	o := front.New()
	if o.Open() || len(o.People()) > 0 || len(o.Books()) > 0 || o.Lines() != 0 || o.Find("ann") != nil || o.Find("") != nil {
		t.Error("New: an office that isn't empty")
	}
	if x := o.Table(); len(x.Schemes)+len(x.Contribs)+len(x.Kinds)+x.Limit+x.Round > 0 {
		t.Errorf("New: with the table %+v", x)
	}
	checks(t, o, "New")
	if front.New() == o {
		t.Error("New answers the same office again")
	}
}

// P30.1: whether it is open, the names, rising, the desks, the accounts, the table, and the lines.
func TestTold(t *testing.T) {
	o := front.New()
	for i, line := range plain {
		does(t, o, "set "+line)
		if o.Open() || o.Lines() != i+1 {
			t.Errorf("%s: open %v, %d lines", line, o.Open(), o.Lines())
		}
	}
	want, n, e := table.Read(plain...)
	if !table.Same(o.Table(), want) || e != api.OK {
		t.Errorf("the table %+v, not %+v (%d %v)", o.Table(), want, n, e)
	}
	does(t, o, "open weekly 2023-04-06")
	if !o.Open() || !table.Same(o.Table(), want) {
		t.Error("it isn't open, with its table")
	}
	for _, name := range []string{"cy", "ann", "bob", "a", "ann-2", "zz"} {
		does(t, o, "hire "+name+" 0L")
	}
	if people := o.People(); !slices.Equal(people, []string{"a", "ann", "ann-2", "bob", "cy", "zz"}) {
		t.Errorf("People: %q", people)
	}
	does(t, o, "pay bob salary 5.00")
	bob := o.Find("bob")
	if y := bob.Year(); bob.Period() != 1 || !slices.Equal(bob.Next(), []api.Element{{Kind: "salary", Amount: 500, Units: 100}}) || y.Freq() != api.Weekly || y.Start() != (api.Date{Year: 2023, Month: 4, Day: 6}) || y.Count() != 53 || bob.TaxCode() != (api.Code{Kind: api.CodeFree}) || !table.Same(bob.Table(), want) {
		t.Errorf("Find: %s", stateOf(bob))
	}
	for _, name := range []string{"", "b", "Bob", "bob ", "dan"} {
		if o.Find(name) != nil {
			t.Errorf("Find(%q): somebody", name)
		}
	}
	if len(o.Books()) > 0 {
		t.Errorf("Books ahead of all: %q", o.Books())
	}
	does(t, o, "run bob", "period 1", "cash 5.00", "taxable 5.00", "social 5.00", "tax 1.00 0.00", "share care 0.50 0.25", "net 3.50", "pay 3.50")
	books := []string{"bank -3.50", "burden 0.25", "fund-care -0.75", "tax -1.00", "wages 5.00"}
	if !slices.Equal(o.Books(), books) {
		t.Errorf("Books: %q", o.Books())
	}
	does(t, o, "books", books...)
}

// P30.1, P2: what is answered is of its own, and so is a clone.
func TestOwn(t *testing.T) {
	o := opened(t, plain...)
	does(t, o, "pay ann salary 10.00")
	does(t, o, "run ann", "period 1", "cash 10.00", "taxable 10.00", "social 10.00", "tax 2.00 0.00", "share care 1.00 0.50", "net 7.00", "pay 7.00")
	does(t, o, "fix ann 1 salary 11.00")
	does(t, o, "pay ann car 3.00")
	before := state(o)
	d := o.Find("ann")
	if _, e := d.Run(); e != api.OK || d.Undo() != api.OK || d.Protect(5) != api.OK || d.Order(api.Order{ID: 7, Amount: 5}) != api.OK {
		t.Error("a desk of its own that doesn't do")
	}
	x := o.Table()
	x.Limit, x.Schemes[0][0].Rate, x.Contribs[0].Bands[0].Rate, x.Contribs[0].Name, x.Kinds[0].Name = 1, 1, 1, "x", "x"
	x = o.Table()
	x.Schemes, x.Contribs, x.Kinds = append(x.Schemes, nil), append(x.Contribs, api.Contrib{}), append(x.Kinds, api.Kind{})
	for _, list := range [][]string{o.People(), o.Books()} {
		for i := range list[:cap(list)] {
			list[:cap(list)][i] = "x"
		}
	}
	said, e := o.Clone().Do("books")
	if e != api.OK {
		t.Error(e)
	}
	for i := range said[:cap(said)] {
		said[:cap(said)][i] = "x"
	}
	if state(o) != before {
		t.Errorf("what was answered changes %s to %s", before, state(o))
	}
	twin := o.Clone()
	if state(twin) != before {
		t.Errorf("Clone of %s: %s", before, state(twin))
	}
	for _, line := range []string{"hire bob 0L", "fix ann 1 salary 12.00", "pay ann salary 1.00", "order ann 7 1 1.00 0 0.00", "protect ann 1.00", "code ann NT"} {
		does(t, twin, line)
	}
	if said, e := twin.Run("run ann\nrun bob"); e != api.OK || len(said) != 17 {
		t.Errorf("a clone says %q %v", said, e)
	}
	checks(t, twin, "all of it")
	if state(o) != before {
		t.Errorf("what a clone does changes %s to %s", before, state(o))
	}
	kept := state(twin)
	for _, line := range []string{"hire cy 0L", "undo ann", "pay ann salary 1.00"} {
		does(t, o, line)
	}
	if said, e := o.Run("run ann\nrun cy"); e != api.OK || len(said) != 16 {
		t.Errorf("says %q %v", said, e)
	}
	if state(twin) != kept {
		t.Errorf("what an office does changes its clone from %s to %s", kept, state(twin))
	}
}

// P30.1: of an office that isn't open a clone is of its own, too.
func TestCloneAhead(t *testing.T) {
	o := set(t, plain[:4]...)
	twin := o.Clone()
	for _, x := range []*front.Office{o, twin} {
		if x.Open() || x.Lines() != 4 || len(x.Table().Contribs) != 1 {
			t.Errorf("Clone: %s", state(x))
		}
	}
	does(t, twin, "set contrib fund social down 0.00 0.00 0.00:10:20")
	does(t, twin, "set kind a + + +")
	does(t, twin, "open monthly 2024-04-06")
	if o.Open() || o.Lines() != 4 || len(o.Table().Contribs) != 1 || len(o.Table().Kinds) > 0 {
		t.Errorf("its clone changes an office to %s", state(o))
	}
	refuses(t, o, "hire ann 0L", api.ErrAhead)
	refuses(t, o, "open monthly 2024-04-06", api.ErrLong)
	does(t, o, "set kind b 0 0 0")
	does(t, o, "open weekly 2023-04-06")
	does(t, twin, "hire ann 0L")
	if len(o.People()) > 0 || twin.Find("ann").Year().Freq() != api.Monthly {
		t.Error("both share a year, or employees")
	}
	does(t, o, "hire ann 0L")
	if o.Find("ann").Year().Freq() != api.Weekly {
		t.Error("an office has its clone's year")
	}
}

// P30.2: layer 29's errors, and lines that tell nothing.
func TestDo(t *testing.T) {
	for _, o := range []*front.Office{front.New(), opened(t, plain...)} {
		before := state(o)
		for _, line := range []string{"", "   ", "# run ann", "  #\x00"} {
			if said, e := o.Do(line); len(said) > 0 || e != api.OK || state(o) != before {
				t.Errorf("%q: says %q, %v", line, said, e)
			}
		}
		for line, want := range map[string]api.Errno{
			"nope": api.ErrCommand, "Run ann": api.ErrCommand, "run": api.ErrForm, "run Ann": api.ErrForm, "run ann x": api.ErrForm, "run ann \"": api.ErrForm, strings.Repeat(" ", 513): api.ErrLong, "set": api.ErrForm,
			"open nope 2024-04-06": api.ErrFreq, "open monthly 2024-02-30": api.ErrDate, "hire ann K0": api.ErrCode, "pay ann salary x": api.ErrForm, "pay dan salary 1000000000.01": api.ErrOverflow, "slip dan 1000000000": api.ErrRange,
			"order dan 7 2 5.00 10001 0.00": api.ErrRate, "books ann": api.ErrForm, "set" + strings.Repeat(" a", 32): api.ErrLong,
		} {
			refuses(t, o, line, want)
		}
	}
}

// P30.3: set.
func TestSet(t *testing.T) {
	o := front.New()
	for line, want := range map[string]api.Errno{
		"set x": api.ErrForm, "set limit": api.ErrForm, "set limit x": api.ErrForm, "set limit 1000000000": api.ErrRange, "set round nope": api.ErrForm, "set scheme 0.00": api.ErrForm, "set scheme 1000000000.01:5": api.ErrOverflow, `set ""`: api.ErrForm,
		"set kind a + + x": api.ErrForm, "set contrib a b": api.ErrForm, "set set limit 5": api.ErrForm,
	} {
		refuses(t, o, line, want)
	}
	// What may be is told as it is opened: so what may not is set, too, and the last limit holds.
	does(t, o, "set limit 20000")
	does(t, o, "set limit 5000 # so")
	does(t, o, "set round up")
	does(t, o, "set round down")
	want := api.Table{Limit: 5000, Round: api.Down}
	for range table.MaxSchemes {
		does(t, o, "set scheme 0.00:2000")
		want.Schemes = append(want.Schemes, []api.Band{{Rate: 2000}})
	}
	refuses(t, o, "set scheme 0.00:2000", api.ErrLong)
	refuses(t, o, "set scheme x:2000", api.ErrForm)
	for i := range table.MaxContribs {
		name := "c" + string(rune('a'+i))
		does(t, o, "set contrib "+name+" taxable up 1.00 0.00 0.00:10:20")
		want.Contribs = append(want.Contribs, api.Contrib{Name: name, Base: api.OnTaxable, Bands: []api.Band{{Rate: 10, Employer: 20}}, PeriodCeil: 100, Round: api.Up})
	}
	refuses(t, o, "set contrib x taxable up 1.00 0.00 0.00:10:20", api.ErrLong)
	refuses(t, o, "set contrib x taxable nope 1.00 0.00 0.00:10:20", api.ErrForm)
	for i := range table.MaxKinds {
		name := "k" + string(rune('a'+i))
		does(t, o, "set kind "+name+" + 0 -")
		want.Kinds = append(want.Kinds, api.Kind{Name: name, Cash: 1, Social: -1})
	}
	refuses(t, o, "set kind x + 0 -", api.ErrLong)
	refuses(t, o, "set kind x + 0", api.ErrForm)
	does(t, o, "set limit 4000")
	does(t, o, "set round inward")
	want.Limit, want.Round = 4000, api.Inward
	if !table.Same(o.Table(), want) {
		t.Errorf("the table %+v, not %+v", o.Table(), want)
	}
	does(t, o, "open monthly 2024-04-06")
	for _, line := range []string{"set limit 5000", "set x", "set limit x", "set kind x + 0 -", "set scheme 0.00:2000"} {
		refuses(t, o, line, api.ErrClosed)
	}
	if !table.Same(o.Table(), want) {
		t.Errorf("the table %+v, not %+v", o.Table(), want)
	}
}

// P30.3: open.
func TestOpen(t *testing.T) {
	o := front.New()
	refuses(t, o, "open monthly 2024-04-06", api.ErrRange) // no way of rounding
	does(t, o, "set round down")
	refuses(t, o, "open monthly 2024-02-29", api.ErrLong) // no scheme: layer 10's error is ahead of layer 4's
	does(t, o, "set scheme 0.00:9500")
	does(t, o, "set limit 10001")
	refuses(t, o, "open monthly 2024-04-06", api.ErrRate)
	does(t, o, "set limit 9501")
	refuses(t, o, "open monthly 2024-04-06", api.ErrLong) // no kind
	does(t, o, "set kind salary + + +")
	refuses(t, o, "open monthly 2024-02-29", api.ErrKeep)
	for _, line := range []string{"run ann", "books", "hire ann 0L", "hire ann VD7", "total ann", "slip ann 1", "gross ann 5.00", "undo ann", "fixes ann", "pieces ann", "budget ann 5.00", "cancel ann 7", "protect ann -5.00", "pay ann x 5.00", "code ann 0L", "order ann 7 1 1.00 0 0.00", "fix ann 1 x 5.00"} {
		refuses(t, o, line, api.ErrAhead)
	}
	does(t, o, "set limit 9500")
	refuses(t, o, "open monthly 2024-02-29", api.ErrDate)
	refuses(t, o, "open monthly 2199-06-01", api.ErrDate)
	does(t, o, "open fourweekly 2023-04-06")
	for _, line := range []string{"open fourweekly 2023-04-06", "open monthly 2024-02-29"} {
		refuses(t, o, line, api.ErrClosed)
	}
	does(t, o, "hire ann 0L")
	if y := o.Find("ann").Year(); y.Freq() != api.FourWeekly || y.Start() != (api.Date{Year: 2023, Month: 4, Day: 6}) {
		t.Error("another year")
	}
	wrong := set(t, plain...)
	does(t, wrong, "set contrib care social down 0.00 0.00 0.00:10:5")
	refuses(t, wrong, "open monthly 2024-04-06", api.ErrTwice)
}

// P30.3: hire, books, and those who aren't there.
func TestHire(t *testing.T) {
	o := set(t, append([]string{"scheme 0.00:0 5.00:1000"}, plain...)...)
	does(t, o, "open monthly 2024-04-06")
	does(t, o, "books")
	refuses(t, o, "hire ann QNT", api.ErrScheme)
	refuses(t, o, "hire ann D2", api.ErrCode)
	does(t, o, "hire ann D1")
	refuses(t, o, "hire ann D1", api.ErrTwice)
	refuses(t, o, "hire ann D2", api.ErrTwice)
	if c := o.Find("ann").TaxCode(); c != (api.Code{Kind: api.CodeFlat, Flat: 1}) {
		t.Errorf("hired with %+v", c)
	}
	for i := range front.MaxPeople - 1 {
		does(t, o, "hire p"+string(rune('a'+i))+" PNT")
	}
	refuses(t, o, "hire one 0L", api.ErrLong)
	refuses(t, o, "hire one QNT", api.ErrLong)
	refuses(t, o, "hire ann 0L", api.ErrTwice)
	if n := len(o.People()); n != front.MaxPeople {
		t.Errorf("%d people", n)
	}
	for _, line := range []string{"run one", "total one", "slip one 99", "gross one 5.00", "undo one", "fixes one", "pieces one", "budget one 5.00", "cancel one 7", "protect one -5.00", "pay one x 5.00", "code one QNT", "order one 7 1 1.00 0 0.00", "fix one 1 x 5.00"} {
		refuses(t, o, line, api.ErrMissing)
	}
}

// P30.4: code, pay, order, cancel, protect.
func TestPut(t *testing.T) {
	o := opened(t, plain...)
	does(t, o, "code ann NT")
	refuses(t, o, "code ann P0L", api.ErrScheme)
	refuses(t, o, "code ann D1", api.ErrCode)
	does(t, o, "pay ann salary 5.00")
	does(t, o, "pay ann hourly 12.50 x2.00")
	refuses(t, o, "pay ann nope 5.00", api.ErrKind)
	refuses(t, o, "pay ann salary 1000000000.00 x1.01", api.ErrOverflow)
	does(t, o, "order ann 7 2 0.50 0 0.80")
	does(t, o, "order ann 8 1 0.00 1000 0.00")
	refuses(t, o, "order ann 7 1 1.00 0 0.00", api.ErrTwice)
	does(t, o, "cancel ann 7")
	refuses(t, o, "cancel ann 7", api.ErrMissing)
	does(t, o, "protect ann 3.00")
	refuses(t, o, "protect ann -0.01", api.ErrRange)
	d := o.Find("ann")
	if d.TaxCode() != (api.Code{Kind: api.CodeNone}) || !slices.Equal(d.Next(), []api.Element{{Kind: "salary", Amount: 500, Units: 100}, {Kind: "hourly", Amount: 1250, Units: 200}}) || len(d.Orders()) != 1 || d.Orders()[0].Order != (api.Order{ID: 8, Priority: 1, Rate: 1000}) || d.Protected() != 300 {
		t.Errorf("then %s", stateOf(d))
	}
	for range 30 {
		does(t, o, "pay ann car 0.01")
	}
	refuses(t, o, "pay ann car 0.01", api.ErrLong)
	for i := range 7 {
		does(t, o, fmt.Sprintf("order ann %d 5 0.01 0 0.00", 100+i))
	}
	refuses(t, o, "order ann 200 5 0.01 0 0.00", api.ErrLong)
}

// P30.4: fix, undo, fixes.
func TestFix(t *testing.T) {
	o := opened(t, plain...)
	does(t, o, "fixes ann")
	refuses(t, o, "fix ann 1 salary 5.00", api.ErrAhead)
	refuses(t, o, "undo ann", api.ErrMissing)
	says(t, o, "pay ann salary 10.00\npay ann car 2.00\nrun ann", "period 1", "cash 10.00", "taxable 12.00", "social 10.00", "tax 2.40 0.00", "share care 1.00 0.50", "net 6.60", "pay 6.60")
	refuses(t, o, "fix ann 0 salary 5.00", api.ErrAhead)
	refuses(t, o, "fix ann 2 salary 5.00", api.ErrAhead)
	refuses(t, o, "fix ann -1 salary 5.00", api.ErrAhead)
	refuses(t, o, "fix ann 1 nope 5.00", api.ErrKind)
	does(t, o, "fix ann 1 nope 0.00") // without it, as it is
	does(t, o, "fix ann 1 car 0.00")
	does(t, o, "fix ann 1 hourly -4.00")
	does(t, o, "fixes ann", "fix 1 at 1, salary 10.00, car 2.00", "fix 1 at 1, salary 10.00", "fix 1 at 1, salary 10.00, hourly -4.00")
	says(t, o, "pay ann hourly 12.50 x0.40\nrun ann", "period 2", "cash 1.00", "taxable -1.00", "social 1.00", "tax -0.20 0.00", "share care 0.10 0.05", "net 1.10", "pay 1.10")
	does(t, o, "fix ann 2 car 1.00")
	does(t, o, "fix ann 1 salary 0")
	does(t, o, "fix ann 1 hourly 0")
	does(t, o, "undo ann")
	does(t, o, "fixes ann",
		"fix 1 at 1, salary 10.00, car 2.00", "fix 1 at 1, salary 10.00", "fix 1 at 1, salary 10.00, hourly -4.00",
		"fix 2 at 2, hourly 12.50 x0.40, car 1.00", "fix 1 at 2, hourly -4.00", "fix 1 at 2", "fix 1 at 2, hourly -4.00")
	if d := o.Find("ann"); !slices.Equal(d.Touched(), []int{1, 2}) || len(d.Fixes()) != 7 {
		t.Errorf("then %s", stateOf(d))
	}
	for range 256 - 7 {
		does(t, o, "undo ann")
	}
	refuses(t, o, "undo ann", api.ErrLong)
	refuses(t, o, "fix ann 1 salary 5.00", api.ErrLong)
}

// P30.5: what a payslip, and all that was posted, is said as.
func TestSlips(t *testing.T) {
	o := opened(t, append(slices.Clone(plain), "contrib fund taxable up 0.00 0.00 0.00:0:100")...)
	does(t, o, "total ann", "periods 0", "cash 0.00", "taxable 0.00", "social 0.00", "tax 0.00 short 0.00 due 0.00", "share care 0.00 0.00", "share fund 0.00 0.00", "net 0.00", "taken 0.00", "pay 0.00")
	refuses(t, o, "slip ann 1", api.ErrMissing)
	one := []string{"period 1", "cash 10.00", "taxable 40.00", "social 10.00", "tax 5.00 3.00", "share care 1.00 0.50", "share fund 0.00 0.40", "net 4.00", "order 7 0.00 0.50 0.50 0.00", "pay 3.50"}
	says(t, o, "order ann 7 2 0.50 0 0.80\npay ann salary 10.00\npay ann car 30.00\nrun ann", one...)
	does(t, o, "total ann", "periods 1", "cash 10.00", "taxable 40.00", "social 10.00", "tax 5.00 short 3.00 due 8.00", "share care 1.00 0.50", "share fund 0.00 0.40", "net 4.00", "taken 0.50", "pay 3.50")
	does(t, o, "books", "bank -3.50", "burden 0.90", "fund-care -1.50", "fund-fund -0.40", "orders -0.50", "tax -5.00", "wages 10.00")
	two := []string{"period 2", "cash 0.00", "taxable -2.00", "social 0.00", "tax 0.00 2.60", "share care 0.00 0.00", "share fund 0.00 -0.02", "net 0.00", "order 7 0.00 0.30 0.00 0.30", "pay 0.00"}
	says(t, o, "fix ann 1 car 28.00\nrun ann", two...)
	does(t, o, "total ann", "periods 2", "cash 10.00", "taxable 38.00", "social 10.00", "tax 5.00 short 2.60 due 7.60", "share care 1.00 0.50", "share fund 0.00 0.38", "net 4.00", "taken 0.50", "pay 3.50")
	// What is corrected isn't posted yet.
	does(t, o, "fix ann 1 car 0.00")
	does(t, o, "total ann", "periods 2", "cash 10.00", "taxable 38.00", "social 10.00", "tax 5.00 short 2.60 due 7.60", "share care 1.00 0.50", "share fund 0.00 0.38", "net 4.00", "taken 0.50", "pay 3.50")
	does(t, o, "slip ann 1", one...)
	does(t, o, "slip ann 2", two...)
	for _, k := range []string{"0", "3", "-1", "999999999"} {
		refuses(t, o, "slip ann "+k, api.ErrMissing)
	}
	does(t, o, "books", "bank -3.50", "burden 0.88", "fund-care -1.50", "fund-fund -0.38", "orders -0.50", "tax -5.00", "wages 10.00")
}

// P30.5: the year is over.
func TestOver(t *testing.T) {
	o := opened(t, plain...)
	does(t, o, "pay ann salary 1.00")
	for range 12 {
		if _, e := o.Do("run ann"); e != api.OK {
			t.Fatal(e)
		}
	}
	for _, line := range []string{"run ann", "pay ann salary 1.00", "pay ann nope 1.00", "code ann NT", "code ann QNT", "fix ann 1 salary 2.00", "gross ann 1.00", "budget ann 1.00", "pieces ann"} {
		refuses(t, o, line, api.ErrClosed)
	}
	does(t, o, "protect ann 1.00")
	does(t, o, "order ann 7 1 1.00 0 0.00")
	does(t, o, "cancel ann 7")
	does(t, o, "fixes ann")
	does(t, o, "slip ann 12", "period 12", "cash 0.00", "taxable 0.00", "social 0.00", "tax 0.00 0.00", "share care 0.00 0.00", "net 0.00", "pay 0.00")
	does(t, o, "hire bob 0L")
	does(t, o, "gross bob 0.07", "gross 0.08 net 0.07")
}

// P30.5: what more is paid.
func TestAsk(t *testing.T) {
	o := opened(t, "limit 5000", "round up", "scheme 0.00:2000 120.00:4000", "contrib fund social up 5.00 0.00 0.00:1000:500", "kind salary + + +", "kind back - 0 0")
	does(t, o, "gross ann 2.80", "gross 4.00 net 2.80")
	does(t, o, "gross ann -5.00", "gross 0.00 net 0.00")
	refuses(t, o, "gross ann 90000000.00", api.ErrNoGross)
	does(t, o, "budget ann 10.25", "gross 10.00")
	does(t, o, "budget ann 10.24", "gross 9.99")
	does(t, o, "budget ann 0", "gross 0.00")
	does(t, o, "budget ann 1000000000.00", "gross 100000000.00")
	refuses(t, o, "budget ann -0.01", api.ErrNoGross)
	said, e := o.Do("pieces ann")
	var may [][]string // a number at which two pieces are alike may be in either
	for _, one := range [][2]string{{"4.99", "5.00"}, {"5.00", "5.01"}} {
		for _, two := range [][2]string{{"9.99", "10.00"}, {"10.00", "10.01"}} {
			may = append(may, []string{"from 0.00 to " + one[0] + " keep 70.00%", "from " + one[1] + " to " + two[0] + " keep 80.00%", "from " + two[1] + " to 100000000.00 keep 60.00%"})
		}
	}
	if e != api.OK || !slices.ContainsFunc(may, func(x []string) bool { return slices.Equal(x, said) }) {
		t.Errorf("pieces: %q %v", said, e)
	}
	says(t, o, "pay ann salary 3.00\npay ann back 1.00")
	does(t, o, "gross ann 3.00", "gross 2.63 net 3.00")
	poor := opened(t, plain...)
	does(t, poor, "pay ann saved 1000000000.00")
	refuses(t, poor, "gross ann 0.00", api.ErrNoGross)
	does(t, poor, "gross ann -1000000000.00", "gross 0.00 net -1000000000.00")
}

// P30.5: run's errors: of the run, of the entries, and of the accounts; then nothing changes.
func TestRunRefuses(t *testing.T) {
	o := set(t, "limit 0", "round down", "scheme 0.00:0", "contrib care social down 0.00 0.00 0.00:5000:10000", "kind salary + + +", "kind cash + 0 0", "kind less - 0 0")
	does(t, o, "open monthly 2024-04-06")
	for _, name := range []string{"ann", "bob", "cy"} {
		does(t, o, "hire "+name+" 0L")
	}
	does(t, o, "pay ann cash 1000000000.00")
	does(t, o, "pay ann cash 0.01")
	refuses(t, o, "run ann", api.ErrOverflow) // layer 21's
	does(t, o, "pay bob salary 800000000.00")
	if _, e := o.Find("bob").Run(); e != api.OK {
		t.Errorf("bob isn't run: %v", e)
	}
	refuses(t, o, "run bob", api.ErrOverflow) // both sides of the contribution together: layer 22's Of
	does(t, o, "pay bob salary -200000000.00")
	does(t, o, "run bob", "period 1", "cash 600000000.00", "taxable 600000000.00", "social 600000000.00", "tax 0.00 0.00", "share care 300000000.00 600000000.00", "net 300000000.00", "pay 300000000.00")
	does(t, o, "pay cy cash 400000000.01")
	s, e := o.Find("cy").Run()
	if e != api.OK {
		t.Errorf("cy isn't run: %v", e)
	}
	if entries, e := post.Of(o.Table(), s); e != api.OK || len(entries) != 2 {
		t.Errorf("the entries of cy: %v %v", entries, e)
	}
	refuses(t, o, "run cy", api.ErrOverflow) // what stands on wages: layer 22's Post
	does(t, o, "order cy 7 1 1.00 0 0.00")
	refuses(t, o, "run cy", api.ErrOverflow)
	does(t, o, "pay cy less 0.01")
	does(t, o, "run cy", "period 1", "cash 400000000.00", "taxable 0.00", "social 0.00", "tax 0.00 0.00", "share care 0.00 0.00", "net 400000000.00", "order 7 0.00 1.00 1.00 0.00", "pay 399999999.00")
	does(t, o, "books", "bank -699999999.00", "burden 600000000.00", "fund-care -900000000.00", "orders -1.00", "wages 1000000000.00")
}

// P30.6: a script: what each line says, or its error, and on with the next one.
func TestRun(t *testing.T) {
	o := front.New()
	says(t, o, "")
	says(t, o, "\n\n # so \n")
	says(t, o, "nope\nset limit 5000\nbooks\n\nopen nope\nset round down", "error 290", "error 230", "error 40")
	if o.Lines() != 2 {
		t.Errorf("%d lines", o.Lines())
	}
	says(t, o, "set "+strings.Join(plain[2:], "\nset ")+"\nopen monthly 2024-04-06\nhire ann 0L\nhire ann 0L\npay ann salary 10.00\nrun ann\nrun bob\nbooks\n",
		"error 4", "period 1", "cash 10.00", "taxable 10.00", "social 10.00", "tax 2.00 0.00", "share care 1.00 0.50", "net 7.00", "pay 7.00", "error 3", "bank -7.00", "burden 0.50", "fund-care -1.50", "tax -2.00", "wages 10.00")
	says(t, o, "total ann\r\ngross ann 7.00", "error 5", "gross 9.98 net 7.00")
	says(t, o, strings.Repeat("x", 513)+"\nfixes ann\nslip ann 2", "error 2", "error 3")
	before := state(o)
	for _, text := range []string{strings.Repeat("\n", front.MaxText+1), "run ann\n" + strings.Repeat("#", front.MaxText), strings.Repeat("x", front.MaxText+1)} {
		if said, e := o.Run(text); len(said) > 0 || e != api.ErrLong || state(o) != before {
			t.Errorf("Run of %d bytes: says %q, %v", len(text), said, e)
		}
	}
	says(t, o, strings.Repeat("\n", front.MaxText))
	says(t, o, strings.Repeat("\n", front.MaxText-5)+"books", "bank -7.00", "burden 0.50", "fund-care -1.50", "tax -2.00", "wages 10.00")
}

// P30.6: errors and lines as they are said.
func TestSaid(t *testing.T) {
	for e, want := range map[api.Errno]string{api.OK: "error 0", api.ErrRange: "error 1", api.ErrCommand: "error 290", -5: "error -5", 12345: "error 12345"} {
		if got := front.Fault(e); got != want {
			t.Errorf("Fault(%d): %q", int(e), got)
		}
	}
	for _, x := range []struct {
		lines []string
		want  string
	}{{nil, ""}, {[]string{""}, ""}, {[]string{"a"}, "a"}, {[]string{"a", "b c", ""}, "a\nb c\n"}, {[]string{"", ""}, "\n"}, {[]string{"a\n", "\x00"}, "a\n\n\x00"}} {
		if got := front.Say(x.lines...); got != x.want {
			t.Errorf("Say(%q): %q", x.lines, got)
		}
	}
}

// P30.5: what layer 29 writes is what an office does: of each command.
func TestWritten(t *testing.T) {
	o := set(t, plain...)
	for _, c := range []script.Command{
		{Op: script.Open, Freq: api.Monthly, Start: api.Date{Year: 2024, Month: 4, Day: 6}}, {Op: script.Hire, Who: "ann", Code: api.Code{Kind: api.CodeFree, Amount: 1000}}, {Op: script.Code, Who: "ann", Code: api.Code{Kind: api.CodeFree}},
		{Op: script.Pay, Who: "ann", Element: api.Element{Kind: "salary", Amount: 500, Units: 200}}, {Op: script.Order, Who: "ann", Order: api.Order{ID: 7, Amount: 100}}, {Op: script.Protect, Who: "ann", Amount: 650}, {Op: script.Run, Who: "ann"},
		{Op: script.Fix, Who: "ann", Period: 1, Element: api.Element{Kind: "salary"}, Amount: 2000}, {Op: script.Undo, Who: "ann"}, {Op: script.Cancel, Who: "ann", Order: api.Order{ID: 7}},
	} {
		line, e := script.Encode(c)
		if _, d := o.Do(line); e != api.OK || d != api.OK {
			t.Errorf("%q: %v %v", line, e, d)
		}
	}
	d := o.Find("ann")
	if s, e := d.Posted().Slip(1); e != api.OK || s.Net != 700 || s.Pay != 650 || len(d.Orders()) != 0 || d.Protected() != 650 || !slices.EqualFunc(d.Inputs(), d.First(), func(a, b run.Input) bool { return slices.Equal(a.Elements, b.Elements) }) || len(d.Fixes()) != 2 {
		t.Errorf("then %s", stateOf(d))
	}
}
