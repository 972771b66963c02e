package front_test

import (
	"fmt"
	"math/rand"
	"slices"
	"sort"
	"strings"
	"testing"

	"stipend/api"
	"stipend/clean"
	"stipend/curve"
	"stipend/element"
	"stipend/front"
	"stipend/gross"
	"stipend/keep"
	"stipend/money"
	"stipend/period"
	"stipend/post"
	"stipend/retro"
	"stipend/run"
	"stipend/script"
	"stipend/share"
	"stipend/slip"
	"stipend/table"
)

// person is who was hired, and all commands that changed them since.
type person struct {
	name string
	code api.Code
	log  []script.Command
}

// model is an office that keeps what was said to it alone: each desk is made anew from that, and what stands on the accounts is put together from all payslips.
type model struct {
	table  api.Table
	year   *period.Year
	people []person
	lines  int
}

// desk: a person's desk, made anew.
func (m *model) desk(t *testing.T, x person) *retro.Desk {
	t.Helper()
	p, e := run.New(m.table, m.year, x.code)
	d, f := retro.New(p)
	if e != api.OK || f != api.OK {
		t.Fatal(e, f)
	}
	for _, c := range x.log {
		if e := change(d, c); e != api.OK {
			t.Fatalf("%+v again: %v", c, e)
		}
	}
	return d
}

// change: what a command changes of a desk.
func change(d *retro.Desk, c script.Command) api.Errno {
	switch c.Op {
	case script.Code:
		return d.Code(c.Code)
	case script.Pay:
		return d.Pay(c.Element)
	case script.Order:
		return d.Order(c.Order)
	case script.Cancel:
		return d.Cancel(c.Order.ID)
	case script.Protect:
		return d.Protect(c.Amount)
	case script.Fix:
		return d.Change(c.Period, c.Element.Kind, c.Amount)
	case script.Undo:
		return d.Undo()
	case script.Run:
		_, e := d.Run()
		return e
	}
	return api.OK
}

// accounts: what stands on the accounts, by the payslips of all, and of one more; false, if it is too much.
func (m *model) accounts(t *testing.T, more ...api.Slip) (map[string]int64, bool) {
	t.Helper()
	all := map[string]int64{}
	for _, x := range m.people {
		more = append(m.desk(t, x).Posted().Slips(), more...)
	}
	for _, s := range more {
		entries, e := post.Of(m.table, s)
		if e != api.OK {
			t.Fatal(e)
		}
		for _, x := range entries {
			all[x.Account] += x.Amount
		}
	}
	right := true
	for _, x := range all {
		right = right && money.Right(x)
	}
	return all, right
}

// books: these, line by line.
func (m *model) books(t *testing.T) []string {
	t.Helper()
	var lines []string
	all, _ := m.accounts(t)
	for account, x := range all {
		if x != 0 {
			lines = append(lines, account+" "+money.Text(x))
		}
	}
	sort.Strings(lines) // a blank is less than all that a name has, so they are in the order of the names
	return lines
}

// names: all who were hired.
func (m *model) names() []string {
	var list []string
	for _, x := range m.people {
		list = append(list, x.name)
	}
	sort.Strings(list)
	return list
}

// do: what a line must say.
func (m *model) do(t *testing.T, line string) ([]string, api.Errno) {
	t.Helper()
	c, e := script.Decode(line)
	if e != api.OK || c.Op == 0 {
		return nil, e
	}
	said, e := m.command(t, c)
	if e != api.OK {
		return nil, e
	}
	m.lines++
	return said, api.OK
}

// command: likewise, of a command.
func (m *model) command(t *testing.T, c script.Command) ([]string, api.Errno) {
	t.Helper()
	i := slices.IndexFunc(m.people, func(x person) bool { return x.name == c.Who })
	switch {
	case c.Op == script.Set:
		return nil, m.set(c.Words)
	case c.Op == script.Open:
		return nil, m.open(c)
	case m.year == nil:
		return nil, api.ErrAhead
	case c.Op == script.Hire:
		if i >= 0 {
			return nil, api.ErrTwice
		}
		if len(m.people) >= 16 {
			return nil, api.ErrLong
		}
		if _, e := run.New(m.table, m.year, c.Code); e != api.OK {
			return nil, e
		}
		m.people = append(m.people, person{name: c.Who, code: c.Code})
		return nil, api.OK
	case c.Op == script.Books:
		return m.books(t), api.OK
	case i < 0:
		return nil, api.ErrMissing
	}
	d := m.desk(t, m.people[i])
	if c.Op == script.Run {
		said, e := m.run(t, d)
		if e == api.OK {
			m.people[i].log = append(m.people[i].log, c)
		}
		return said, e
	}
	if said, e, asked := m.asked(d, c); asked {
		return said, e
	}
	e := change(d, c)
	if e == api.OK {
		m.people[i].log = append(m.people[i].log, c)
	}
	return nil, e
}

// set, open: what these must do.
func (m *model) set(words []string) api.Errno {
	if m.year != nil {
		return api.ErrClosed
	}
	x, e := table.Put(m.table, words...)
	if e == api.OK && (len(x.Schemes) > 8 || len(x.Contribs) > 6 || len(x.Kinds) > 12) {
		return api.ErrLong
	}
	if e == api.OK {
		m.table = x
	}
	return e
}

func (m *model) open(c script.Command) api.Errno {
	if m.year != nil {
		return api.ErrClosed
	}
	if e := keep.Check(m.table); e != api.OK {
		return e
	}
	y, e := period.New(c.Freq, c.Start)
	if e == api.OK {
		m.year = y
	}
	return e
}

// run: what the next period's payslip must say.
func (m *model) run(t *testing.T, d *retro.Desk) ([]string, api.Errno) {
	t.Helper()
	s, e := d.Run()
	if e != api.OK {
		return nil, e
	}
	if _, e := post.Of(m.table, s); e != api.OK {
		return nil, e
	}
	if _, right := m.accounts(t, s); !right {
		return nil, api.ErrOverflow
	}
	said, e := slip.Lines(m.table, s)
	if e != api.OK {
		t.Fatal(e)
	}
	return said, api.OK
}

// asked: what a command that changes nothing must say; false, if it isn't one.
func (m *model) asked(d *retro.Desk, c script.Command) ([]string, api.Errno, bool) {
	var lines []string
	say := func(form string, list ...any) { lines = append(lines, fmt.Sprintf(form, list...)) }
	e := api.OK
	switch c.Op {
	case script.Gross:
		a, wrong := gross.Up(d.Employee, c.Amount)
		say("gross %s net %s", money.Text(a.Gross), money.Text(a.Net))
		e = wrong
	case script.Budget:
		h, _, wrong := gross.Within(d.Employee, c.Amount)
		say("gross %s", money.Text(h))
		e = wrong
	case script.Pieces:
		list, wrong := curve.Pieces(d.Employee)
		for _, x := range list {
			say("from %s to %s keep %d.%02d%%", money.Text(x.From), money.Text(x.To), x.Keep/100, x.Keep%100)
		}
		e = wrong
	case script.Slip:
		s, wrong := d.Posted().Slip(c.Period)
		if e = wrong; e == api.OK {
			lines, e = slip.Lines(m.table, s)
		}
	case script.Total:
		x := d.Posted().Totals()
		say("periods %d", d.Posted().Count())
		say("cash %s", money.Text(x.Cash))
		say("taxable %s", money.Text(x.Taxable))
		say("social %s", money.Text(x.Social))
		say("tax %s short %s due %s", money.Text(x.Tax), money.Text(x.Shortfall), money.Text(x.Tax+x.Shortfall))
		for _, line := range share.Lines(m.table, x.Shares) {
			say("share %s", line)
		}
		say("net %s", money.Text(x.Net))
		say("taken %s", money.Text(x.Taken))
		say("pay %s", money.Text(x.Pay))
	case script.Fixes:
		for _, f := range d.Fixes() {
			text := ""
			for _, x := range f.Elements {
				text += ", " + element.Text(x)
			}
			say("fix %d at %d%s", f.Period, f.At, text)
		}
	default:
		return nil, api.OK, false
	}
	if e != api.OK {
		lines = nil
	}
	return lines, e, true
}

// state: all that the model's office must tell.
func (m *model) state(t *testing.T) string {
	t.Helper()
	names := m.names()
	text := fmt.Sprintf("%v %d %q %q %q %+v %q %v\n", m.year != nil, m.lines, names, m.books(t), table.Lines(m.table), m.table, "", true)
	for _, name := range names {
		i := slices.IndexFunc(m.people, func(x person) bool { return x.name == name })
		text += name + " " + stateOf(m.desk(t, m.people[i])) + "\n"
	}
	return text
}

// pick: one of some.
func pick[T any](r *rand.Rand, list ...T) T { return list[r.Intn(len(list))] }

// amountOf: an amount by chance, of all sizes.
func amountOf(r *rand.Rand) string {
	size := pick[int64](r, 10, 2000, 2000, 100_000, 100_000, 40_000_000_000)
	x := r.Int63n(size)
	if r.Intn(6) == 0 {
		x = -x
	}
	return money.Text(x)
}

// tables: some to be opened.
var tables = [][]string{
	plain,
	{"limit 8500", "round up", "scheme 0.00:2000", "contrib care social up 5.00 0.00 0.00:1000:2000", "kind salary + + +", "kind hourly + + +", "kind car 0 + 0", "kind saved - - 0"},
	{"limit 3333", "round halfeven", "scheme 0.00:1999 500.00:3001", "scheme 0.00:4501", "contrib care taxable halfdown 100.00 300.00 0.00:1:2 1.00:777:3", "contrib fund social halfup 0.00 2500.00 0.00:500:700", "kind salary + + +", "kind hourly + + 0", "kind car 0 + +", "kind saved - - -"},
	{"limit 0", "round down", "scheme 0.00:0", "kind salary + + +", "kind hourly + 0 0", "kind car 0 + 0", "kind saved - 0 0"},
}

// lineOf: a line by chance.
func lineOf(r *rand.Rand) string {
	who := pick(r, "ann", "bob", "cy", "ann", "bob", "dan")
	kind := pick(r, "salary", "salary", "salary", "hourly", "car", "saved", "nope")
	code := pick(r, "0L", "0L", "1L", "12L", "K5X", "NT", "0LX", "D0", "P0L", "D1X", "QNT")
	switch r.Intn(24) {
	case 0:
		return pick(r, "hire ", "hire ", "code ") + who + " " + code
	case 1, 2, 3, 4:
		return "pay " + who + " " + kind + " " + amountOf(r) + pick(r, "", "", "", " x0.50", " x12.34", " x0")
	case 5:
		return fmt.Sprintf("order %s %d %d %s %d %s", who, r.Intn(5), r.Intn(3), amountOf(r), pick(r, 0, 0, 1000, 5000), pick(r, "0", "0.00", amountOf(r)))
	case 6:
		return fmt.Sprintf("cancel %s %d", who, r.Intn(5))
	case 7:
		return "protect " + who + " " + amountOf(r)
	case 8, 9, 10:
		return fmt.Sprintf("fix %s %d %s %s", who, r.Intn(6), kind, pick(r, "0", amountOf(r)))
	case 11:
		return "gross " + who + " " + amountOf(r)
	case 12:
		return "budget " + who + " " + amountOf(r)
	case 13:
		return fmt.Sprintf("slip %s %d", who, r.Intn(6))
	case 14:
		return pick(r, "total ", "pieces ", "fixes ") + who
	case 15:
		return "undo " + who
	case 16:
		return pick(r, "books", "books", "# so", "", "nope", "run", "set limit 5000", "open monthly 2024-04-06", "books ann", "slip ann x")
	}
	return "run " + who + pick(r, "", "", " # so")
}

// P30.2 to P30.7: offices step by step against the model: what each line says, and all that is told of the office then.
func TestModel(t *testing.T) {
	r := rand.New(rand.NewSource(30))
	errors, ops := map[api.Errno]int{}, map[int]int{}
	for i := range 60 {
		o, m := front.New(), &model{}
		lines := []string{pick(r, "# so", "set limit 10000", "set nope", "hire ann 0L")}
		for _, line := range tables[i%len(tables)] {
			lines = append(lines, "set "+line)
		}
		lines = append(lines, "open "+pick(r, "monthly", "monthly", "weekly", "fourweekly", "fortnightly")+" 2023-04-06", "hire ann 0L", "hire bob 12L")
		for range 100 {
			lines = append(lines, lineOf(r))
		}
		for _, line := range lines {
			want, wantE := m.do(t, line)
			said, e := o.Do(line)
			if !slices.Equal(said, want) || e != wantE {
				t.Fatalf("office %d, %s: says %q, %v, not %q, %v", i, line, said, e, want, wantE)
			}
			if got, want := state(o), m.state(t); got != want {
				t.Fatalf("office %d behind %s: %s, not %s", i, line, got, want)
			}
			if r.Intn(10) == 0 {
				o = o.Clone()
			}
			errors[e]++
			if c, _ := script.Decode(line); e == api.OK {
				ops[c.Op]++
			}
		}
		// All of it as a script says the same, line by line.
		twin, again := front.New(), &model{}
		var want []string
		for _, line := range lines {
			said, e := again.do(t, line)
			if e != api.OK {
				said = []string{fmt.Sprintf("error %d", int(e))}
			}
			want = append(want, said...)
		}
		if said, e := twin.Run(strings.Join(lines, "\n") + "\n"); !slices.Equal(said, want) || e != api.OK || state(twin) != state(o) {
			t.Fatalf("office %d as a script: says %q, %v, not %q", i, said, e, want)
		}
	}
	for _, e := range []api.Errno{api.OK, api.ErrMissing, api.ErrAhead, api.ErrKind, api.ErrTwice, api.ErrForm, api.ErrCommand, api.ErrClosed, api.ErrRange, api.ErrOverflow, api.ErrScheme, api.ErrCode, api.ErrNoGross} {
		if errors[e] < 5 {
			t.Errorf("only %d lines with %v", errors[e], e)
		}
	}
	for op := script.Set; op <= script.Fixes; op++ {
		if ops[op] < 10 {
			t.Errorf("only %d lines of the command %d", ops[op], op)
		}
	}
}

// P30.7: so it always is: of years that are full of corrections, each period's dues are what they would have been.
func TestCheck(t *testing.T) {
	r := rand.New(rand.NewSource(307))
	for i := range 12 {
		o := opened(t, tables[i%len(tables)]...)
		does(t, o, "hire bob 1L")
		for range 12 {
			for _, who := range []string{"ann", "bob"} {
				for range r.Intn(3) {
					o.Do("pay " + who + " " + pick(r, "salary", "car", "saved") + " " + amountOf(r))
				}
				o.Do(fmt.Sprintf("fix %s %d %s %s", who, r.Intn(13), pick(r, "salary", "hourly"), amountOf(r)))
				o.Do("run " + who)
				checks(t, o, "run "+who)
			}
		}
		for _, who := range o.People() {
			if k, e := clean.Check(o.Find(who)); k != 0 || e != api.OK {
				t.Errorf("office %d, %s: %d %v", i, who, k, e)
			}
		}
	}
}

// P1: no call panics, whatever it is given: lines and scripts of any bytes, and of words that mean something; each says the same again.
func TestEnds(t *testing.T) {
	r := rand.New(rand.NewSource(1))
	words := []string{"set", "open", "hire", "pay", "order", "run", "fix", "gross", "slip", "total", "books", "undo", "budget", "pieces", "fixes", "ann", "bob", "salary", "0L", "7", "5.00", "-1000000000.00", "999999999", "x0.10", "monthly", "2024-04-06", "", "#", "\n", "\x00"}
	o := opened(t, plain...)
	for range 400 {
		bytes := make([]byte, r.Intn(700))
		for i := range bytes {
			bytes[i] = byte(r.Intn(256))
		}
		text := ""
		for range r.Intn(60) {
			text += pick(r, words...) + pick(r, " ", " ", "\n")
		}
		for _, s := range []string{string(bytes), text, "run ann\n" + text} {
			one, two := o.Clone(), o.Clone()
			said, e := one.Run(s)
			again, f := two.Run(s)
			if !slices.Equal(said, again) || e != f || state(one) != state(two) {
				t.Fatalf("%q: says %q %v, then %q %v", s, said, e, again, f)
			}
			one.Do(s)
			one.Find(s)
			front.Say(s, s)
			checks(t, one, s)
		}
	}
	for _, e := range []api.Errno{-1 << 63, 1<<63 - 1} {
		if one, two := front.Fault(e), front.Fault(e); one != two || !strings.HasPrefix(one, "error ") {
			t.Errorf("Fault: %q, %q", one, two)
		}
	}
}
