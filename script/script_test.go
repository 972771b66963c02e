package script_test

import (
	"math"
	"slices"
	"strings"
	"testing"

	"stipend/api"
	"stipend/script"
)

const most = 100_000_000_000 // the greatest amount, as the document tells it

// first: a day.
var first = api.Date{Year: 2024, Month: 4, Day: 6}

// P29.1: the commands' numbers are one behind the other, in the document's order.
func TestNumbers(t *testing.T) {
	for i, op := range []int{
		script.Set, script.Open, script.Hire, script.Code, script.Pay, script.Order, script.Cancel, script.Protect, script.Run,
		script.Fix, script.Gross, script.Slip, script.Total, script.Books, script.Undo, script.Budget, script.Pieces, script.Fixes,
	} {
		if op != i+1 {
			t.Errorf("the command %d has the number %d", i+1, op)
		}
	}
}

// told: lines as their commands are written, and what they tell.
var told = []struct {
	line string
	c    script.Command
}{
	{"set limit 5000", script.Command{Op: script.Set, Words: []string{"limit", "5000"}}},
	{`set "" "a # b" set`, script.Command{Op: script.Set, Words: []string{"", "a # b", "set"}}},
	{"set x", script.Command{Op: script.Set, Words: []string{"x"}}},
	{"open weekly 2024-04-06", script.Command{Op: script.Open, Freq: api.Weekly, Start: first}},
	{"open monthly 1900-01-01", script.Command{Op: script.Open, Freq: api.Monthly, Start: api.Date{Year: 1900, Month: 1, Day: 1}}},
	{"open fortnightly 2199-12-31", script.Command{Op: script.Open, Freq: api.Fortnightly, Start: api.Date{Year: 2199, Month: 12, Day: 31}}},
	{"open fourweekly 2024-02-29", script.Command{Op: script.Open, Freq: api.FourWeekly, Start: api.Date{Year: 2024, Month: 2, Day: 29}}},
	{"hire ann 1257L", script.Command{Op: script.Hire, Who: "ann", Code: api.Code{Kind: api.CodeFree, Amount: 1257000}}},
	{"hire books NT", script.Command{Op: script.Hire, Who: "books", Code: api.Code{Kind: api.CodeNone}}},
	{"code ann QK10X", script.Command{Op: script.Code, Who: "ann", Code: api.Code{Scheme: 2, Kind: api.CodeExtra, Amount: 10000, Alone: true}}},
	{"code a VD7", script.Command{Op: script.Code, Who: "a", Code: api.Code{Scheme: 7, Kind: api.CodeFlat, Flat: 7}}},
	{"pay ann salary -10.00", script.Command{Op: script.Pay, Who: "ann", Element: api.Element{Kind: "salary", Amount: -1000, Units: 100}}},
	{"pay ann hourly 12.50 x2.00", script.Command{Op: script.Pay, Who: "ann", Element: api.Element{Kind: "hourly", Amount: 1250, Units: 200}}},
	{"pay ann hourly 0.00 x0.00", script.Command{Op: script.Pay, Who: "ann", Element: api.Element{Kind: "hourly"}}},
	{"pay ann hourly 1000000000.00 x1000.00", script.Command{Op: script.Pay, Who: "ann", Element: api.Element{Kind: "hourly", Amount: most, Units: 100_000}}},
	{"order ann 7 2 50.00 0 80.00", script.Command{Op: script.Order, Who: "ann", Order: api.Order{ID: 7, Priority: 2, Amount: 5000, Total: 8000}}},
	{"order ann 999999 999 0.00 10000 0.00", script.Command{Op: script.Order, Who: "ann", Order: api.Order{ID: 999_999, Priority: 999, Rate: 10000}}},
	{"cancel ann 7", script.Command{Op: script.Cancel, Who: "ann", Order: api.Order{ID: 7}}},
	{"cancel ann -999999999", script.Command{Op: script.Cancel, Who: "ann", Order: api.Order{ID: -999_999_999}}},
	{"protect ann 50.00", script.Command{Op: script.Protect, Who: "ann", Amount: 5000}},
	{"protect ann -0.01", script.Command{Op: script.Protect, Who: "ann", Amount: -1}},
	{"run ann", script.Command{Op: script.Run, Who: "ann"}},
	{"run a-3456789012345-", script.Command{Op: script.Run, Who: "a-3456789012345-"}},
	{"fix ann 3 salary 20.00", script.Command{Op: script.Fix, Who: "ann", Period: 3, Element: api.Element{Kind: "salary"}, Amount: 2000}},
	{"fix ann 0 a 0.00", script.Command{Op: script.Fix, Who: "ann", Element: api.Element{Kind: "a"}}},
	{"gross ann -1000000000.00", script.Command{Op: script.Gross, Who: "ann", Amount: -most}},
	{"slip ann 999999999", script.Command{Op: script.Slip, Who: "ann", Period: 999_999_999}},
	{"slip ann 0", script.Command{Op: script.Slip, Who: "ann"}},
	{"total ann", script.Command{Op: script.Total, Who: "ann"}},
	{"books", script.Command{Op: script.Books}},
	{"undo ann", script.Command{Op: script.Undo, Who: "ann"}},
	{"budget ann 1000000000.00", script.Command{Op: script.Budget, Who: "ann", Amount: most}},
	{"pieces ann", script.Command{Op: script.Pieces, Who: "ann"}},
	{"fixes ann", script.Command{Op: script.Fixes, Who: "ann"}},
}

// P29.1, P29.2, P29.3: what lines tell, and how it is written.
func TestTold(t *testing.T) {
	ops := map[int]int{}
	for _, x := range told {
		ops[x.c.Op]++
		sameDecode(t, x.line, x.c, api.OK)
		sameEncode(t, x.c, x.line, api.OK)
		// Blanks, what is behind a #, and quotes that needn't be, don't matter.
		sameDecode(t, "  "+x.line+"  # \" \x00", x.c, api.OK)
		name, behind, _ := strings.Cut(x.line, " ")
		sameDecode(t, `"`+name+`"   `+behind+"#", x.c, api.OK)
	}
	if len(ops) != script.Fixes {
		t.Errorf("only the commands %v are told", ops)
	}
}

// P29.2: amounts without a point are read as well; of lines that tell none, the zero command.
func TestDecode(t *testing.T) {
	for _, x := range []struct {
		line string
		c    script.Command
	}{
		{"", script.Command{}}, {"    ", script.Command{}}, {"# pay ann", script.Command{}}, {"  #\x00\xff", script.Command{}}, {strings.Repeat(" ", 512), script.Command{}},
		{"gross ann 7", script.Command{Op: script.Gross, Who: "ann", Amount: 700}},
		{"pay ann hourly 12.50 x2.00 # so", script.Command{Op: script.Pay, Who: "ann", Element: api.Element{Kind: "hourly", Amount: 1250, Units: 200}}},
		{"pay ann hourly 12 x1.00", script.Command{Op: script.Pay, Who: "ann", Element: api.Element{Kind: "hourly", Amount: 1200, Units: 100}}},
		{"order ann 7 2 50 0 80", script.Command{Op: script.Order, Who: "ann", Order: api.Order{ID: 7, Priority: 2, Amount: 5000, Total: 8000}}},
		{`run "ann"`, script.Command{Op: script.Run, Who: "ann"}},
	} {
		sameDecode(t, x.line, x.c, api.OK)
	}
}

// P29.2: what is wrong, the first of it.
func TestDecodeRefuses(t *testing.T) {
	long := strings.Repeat("x", 513)
	for _, x := range []struct {
		line string
		want api.Errno
	}{
		// Layer 7's error of the line is ahead of all.
		{long, api.ErrLong}, {"pay ann salary 5.00 " + long, api.ErrLong}, {"#" + long, api.ErrLong}, {"set" + strings.Repeat(" a", 32), api.ErrLong}, {"set" + strings.Repeat(" a", 31) + " \"", api.ErrLong},
		{"nope \"", api.ErrForm}, {"\"", api.ErrForm}, {"run ann\t", api.ErrForm}, {"run é", api.ErrForm}, {"\x00", api.ErrForm},
		// There is no such command.
		{"nope", api.ErrCommand}, {"Set limit 5000", api.ErrCommand}, {"SET", api.ErrCommand}, {"sets x", api.ErrCommand}, {"se x", api.ErrCommand}, {`""`, api.ErrCommand}, {`"" ann`, api.ErrCommand}, {`"run ann"`, api.ErrCommand},
		{`" run" ann`, api.ErrCommand}, {"command ann", api.ErrCommand}, {"1 ann", api.ErrCommand}, {"9 Ann 5 6 7", api.ErrCommand},
		// set: one word at least.
		{"set", api.ErrForm}, {"set # limit", api.ErrForm},
		// open: a frequency, a day.
		{"open", api.ErrForm}, {"open nope", api.ErrFreq}, {`open ""`, api.ErrFreq}, {"open Weekly 2024-04-06", api.ErrFreq}, {"open weekly", api.ErrForm}, {"open weekly x", api.ErrForm}, {"open weekly 2024-4-6", api.ErrForm},
		{"open weekly 2024-02-30", api.ErrDate}, {"open weekly 1899-12-31", api.ErrDate}, {"open weekly 2200-01-01", api.ErrDate}, {"open weekly 2024-04-06 x", api.ErrForm}, {"open weekly 2024-02-30 x", api.ErrDate}, {"open nope 2024-02-30", api.ErrFreq},
		{"open 2024-04-06 weekly", api.ErrFreq}, {"open ann weekly 2024-04-06", api.ErrFreq},
		// hire, code: who, a tax code.
		{"hire", api.ErrForm}, {"hire Ann", api.ErrForm}, {"hire ann", api.ErrForm}, {"hire ann x", api.ErrForm}, {"hire ann 01L", api.ErrForm}, {"hire ann K0", api.ErrCode}, {"hire ann D8", api.ErrCode}, {"hire Ann K0", api.ErrForm}, {"hire ann K0 x", api.ErrCode}, {"hire ann 0L x", api.ErrForm},
		{"code", api.ErrForm}, {"code ann", api.ErrForm}, {"code ann VD9", api.ErrCode}, {"code ann W0L", api.ErrForm}, {"code ann 0L 0L", api.ErrForm}, {"code 0L ann", api.ErrForm},
		// pay: who, and an element as one.
		{"pay", api.ErrForm}, {"pay ann", api.ErrForm}, {"pay Ann salary 5.00", api.ErrForm}, {"pay ann salary", api.ErrForm}, {"pay ann Salary 5.00", api.ErrForm}, {"pay ann salary x", api.ErrForm}, {"pay ann salary 1000000000.01", api.ErrOverflow},
		{"pay ann salary 5.00 2.00", api.ErrForm}, {"pay ann salary 5.00 x", api.ErrForm}, {"pay ann salary 5.00 x-0.01", api.ErrRange}, {"pay ann salary 5.00 x1000.01", api.ErrRange}, {"pay ann salary 5.00 x1000000000.01", api.ErrOverflow},
		{"pay ann salary 1000000000.01 x9999999", api.ErrOverflow}, {"pay ann salary 1000000000.01 x2.00 x", api.ErrForm}, {"pay Ann salary 1000000000.01", api.ErrForm}, {"pay salary 5.00", api.ErrForm},
		// order: who, and an order as one.
		{"order", api.ErrForm}, {"order ann", api.ErrForm}, {"order ann 7 2 50.00 0", api.ErrForm}, {"order ann 7 2 50.00 0 80.00 x", api.ErrForm}, {"order ann 1000000000 2 50.00 0 80.00 x", api.ErrForm}, {"order Ann 1000000000 2 50.00 0 80.00", api.ErrForm},
		{"order ann 1000000000 x 50.00 0 80.00", api.ErrRange}, {"order ann 7 x 50.00 0 80.00", api.ErrForm}, {"order ann 7 2 1000000000.01 0 80.00", api.ErrOverflow}, {"order ann 7 2 50.00 10001 80.00", api.ErrRate}, {"order ann 0 2 50.00 0 80.00", api.ErrRange},
		{"order ann 7 2 0.00 0 80.00", api.ErrForm}, {"order ann 7 1000 50.00 0 80.00", api.ErrRange}, {"order ann 7 2 -50.00 0 80.00", api.ErrRange},
		// cancel, slip: who, a whole number.
		{"cancel", api.ErrForm}, {"cancel ann", api.ErrForm}, {"cancel ann x", api.ErrForm}, {"cancel ann 07", api.ErrForm}, {"cancel ann 1000000000", api.ErrRange}, {"cancel Ann 1000000000", api.ErrForm}, {"cancel ann 7 8", api.ErrForm}, {"cancel ann 1000000000 8", api.ErrRange}, {"cancel 7", api.ErrForm},
		{"slip", api.ErrForm}, {"slip ann", api.ErrForm}, {"slip ann -0", api.ErrForm}, {"slip ann 1.00", api.ErrForm}, {"slip ann -1000000000", api.ErrRange}, {"slip ann 1 2", api.ErrForm},
		// protect, gross, budget: who, an amount.
		{"protect", api.ErrForm}, {"protect ann", api.ErrForm}, {"protect ann 5.0", api.ErrForm}, {"protect ann -1000000000.01", api.ErrOverflow}, {"protect Ann -1000000000.01", api.ErrForm}, {"protect ann 5.00 x", api.ErrForm},
		{"gross ann", api.ErrForm}, {"gross 5.00", api.ErrForm}, {"gross ann x", api.ErrForm}, {"gross ann 1000000000.01 x", api.ErrOverflow}, {"gross ann 5.00 x", api.ErrForm},
		{"budget ann", api.ErrForm}, {"budget ann -0", api.ErrForm}, {"budget ann 100000000000", api.ErrOverflow}, {"budget ann 5.00 5.00", api.ErrForm},
		// fix: who, a whole number, a name, an amount.
		{"fix", api.ErrForm}, {"fix ann", api.ErrForm}, {"fix ann 1", api.ErrForm}, {"fix ann 1 salary", api.ErrForm}, {"fix ann 1 salary 5.00 x2.00", api.ErrForm}, {"fix ann 1 salary 5.00 x", api.ErrForm},
		{"fix Ann 1000000000 salary 5.00", api.ErrForm}, {"fix ann 1000000000 Salary 5.00", api.ErrRange}, {"fix ann x salary 1000000000.01", api.ErrForm}, {"fix ann 1 Salary 1000000000.01", api.ErrForm}, {"fix ann 1 salary 1000000000.01", api.ErrOverflow}, {"fix ann 1 salary 1000000000.01 x", api.ErrOverflow},
		{"fix ann salary 1 5.00", api.ErrForm}, {"fix ann 1000000000", api.ErrRange},
		// run, total, undo, pieces, fixes: who, and nothing more; books: nothing at all.
		{"run", api.ErrForm}, {"run Ann", api.ErrForm}, {"run ann bob", api.ErrForm}, {`run ""`, api.ErrForm}, {"run a-34567890123456-", api.ErrForm}, {"run 1", api.ErrForm},
		{"total", api.ErrForm}, {"total ann 1", api.ErrForm}, {"total -ann", api.ErrForm}, {"undo", api.ErrForm}, {"undo ann ann", api.ErrForm}, {"undo a_b", api.ErrForm}, {"pieces", api.ErrForm}, {"pieces ann x", api.ErrForm}, {"pieces é", api.ErrForm}, {"fixes", api.ErrForm}, {"fixes ann 1", api.ErrForm}, {"fixes Ann", api.ErrForm},
		{"books ann", api.ErrForm}, {`books ""`, api.ErrForm}, {"books books", api.ErrForm},
	} {
		sameDecode(t, x.line, script.Command{}, x.want)
	}
}

// same: are two commands the same, in each field?
func same(a, b script.Command) bool {
	words := slices.Equal(a.Words, b.Words)
	return words && a.Op == b.Op && a.Who == b.Who && a.Freq == b.Freq && a.Start == b.Start && a.Code == b.Code && a.Element == b.Element && a.Order == b.Order && a.Amount == b.Amount && a.Period == b.Period
}

// sameDecode, sameEncode tell a test's fault, if the answer is another one.
func sameDecode(t *testing.T, line string, want script.Command, wantE api.Errno) {
	t.Helper()
	if c, e := script.Decode(line); !same(c, want) || e != wantE {
		t.Errorf("Decode(%q): %+v, %v, not %+v, %v", line, c, e, want, wantE)
	}
}

func sameEncode(t *testing.T, c script.Command, want string, wantE api.Errno) {
	t.Helper()
	if line, e := script.Encode(c); line != want || e != wantE {
		t.Errorf("Encode(%+v): %q, %v, not %q, %v", c, line, e, want, wantE)
	}
}

// others: each field of a command changed, by itself.
func others(c script.Command) []script.Command {
	list := make([]script.Command, 18)
	for i := range list {
		list[i] = c
	}
	list[0].Op++
	list[1].Who += "x"
	list[2].Words = append(slices.Clone(c.Words), "x")
	list[3].Freq++
	list[4].Start.Year++
	list[5].Start.Month++
	list[6].Start.Day++
	list[7].Code.Scheme++
	list[8].Code.Amount += 1000
	list[9].Code.Alone = !c.Code.Alone
	list[10].Element.Kind += "x"
	list[11].Element.Amount++
	list[12].Element.Units++
	list[13].Order.ID++
	list[14].Order.Priority++
	list[15].Order.Total++
	list[16].Amount++
	list[17].Period++
	return list
}

// P29.3: commands are the same, if all that they tell is; no words are the same as none.
func TestSame(t *testing.T) {
	for _, x := range told {
		twin := x.c
		twin.Words = slices.Clone(x.c.Words)
		if !script.Same(x.c, twin) {
			t.Errorf("%+v isn't the same as itself", x.c)
		}
		for _, other := range others(x.c) {
			if script.Same(x.c, other) || script.Same(other, x.c) {
				t.Errorf("%+v is the same as %+v", x.c, other)
			}
		}
	}
	for _, x := range [][2][]string{{nil, {}}, {{}, nil}, {{}, {}}, {nil, nil}} {
		if !script.Same(script.Command{Words: x[0]}, script.Command{Words: x[1]}) {
			t.Errorf("no words aren't the same as none: %#v", x)
		}
	}
	for _, x := range [][2][]string{{nil, {""}}, {{"a"}, {"b"}}, {{"a"}, {"a", "a"}}, {{"a", "b"}, {"b", "a"}}, {{"ab"}, {"a", "b"}}} {
		if script.Same(script.Command{Words: x[0]}, script.Command{Words: x[1]}) || script.Same(script.Command{Words: x[1]}, script.Command{Words: x[0]}) {
			t.Errorf("%q are the same", x)
		}
	}
}

// P29.3: what a command doesn't tell is none of it.
func TestEncodeMore(t *testing.T) {
	more := 0
	for _, x := range told {
		for _, other := range others(x.c) {
			line, e := script.Encode(other)
			c, wrong := script.Decode(line)
			if e == api.OK && (!same(c, other) || wrong != api.OK) {
				t.Errorf("Encode(%+v): %q, which tells %+v %v", other, line, c, wrong)
			}
			if e != api.OK && line != "" {
				t.Errorf("Encode(%+v): %q beside %v", other, line, e)
			}
			if e == api.ErrCommand {
				more++
			}
		}
	}
	if more < 200 {
		t.Errorf("only %d of them have what their commands don't tell", more)
	}
}

// P29.3: there is no such command, it is too long a line, it isn't one, or it tells another one.
func TestEncodeRefuses(t *testing.T) {
	long := strings.Repeat("x", 509)
	for _, x := range []struct {
		c    script.Command
		want api.Errno
	}{
		{script.Command{}, api.ErrCommand}, {script.Command{Op: -1}, api.ErrCommand}, {script.Command{Op: 19}, api.ErrCommand}, {script.Command{Op: math.MinInt}, api.ErrCommand}, {script.Command{Op: math.MaxInt, Who: "\x00"}, api.ErrCommand}, {script.Command{Op: 1<<32 + script.Books}, api.ErrCommand},
		// Join's error of the words.
		{script.Command{Op: script.Set, Words: slices.Repeat([]string{"a"}, 32)}, api.ErrLong}, {script.Command{Op: script.Set, Words: slices.Repeat([]string{"\x00"}, 32)}, api.ErrLong}, {script.Command{Op: script.Set, Words: []string{long}}, api.ErrLong}, {script.Command{Op: script.Set, Words: []string{"\""}}, api.ErrForm}, {script.Command{Op: script.Set, Words: []string{long, "\""}}, api.ErrLong}, {script.Command{Op: script.Set, Words: []string{"\"", long}}, api.ErrForm},
		{script.Command{Op: script.Run, Who: long}, api.ErrLong}, {script.Command{Op: script.Run, Who: "é"}, api.ErrForm}, {script.Command{Op: script.Pay, Who: "ann", Element: api.Element{Kind: strings.Repeat("a ", 255)}}, api.ErrLong}, {script.Command{Op: script.Pay, Who: "ann", Element: api.Element{Kind: "a\n"}}, api.ErrForm},
		{script.Command{Op: script.Fix, Who: "ann", Element: api.Element{Kind: long}}, api.ErrLong},
		// Decode's error.
		{script.Command{Op: script.Set}, api.ErrForm}, {script.Command{Op: script.Set, Who: "ann"}, api.ErrForm}, {script.Command{Op: script.Run}, api.ErrForm}, {script.Command{Op: script.Run, Who: "Ann"}, api.ErrForm}, {script.Command{Op: script.Run, Who: "ann bob"}, api.ErrForm}, {script.Command{Op: script.Run, Who: "ann#"}, api.ErrForm},
		{script.Command{Op: script.Open, Start: first}, api.ErrFreq}, {script.Command{Op: script.Open, Freq: 5, Start: first}, api.ErrFreq}, {script.Command{Op: script.Open, Freq: -1}, api.ErrFreq}, {script.Command{Op: script.Open, Freq: 1}, api.ErrForm}, {script.Command{Op: script.Open, Freq: 1, Start: api.Date{Year: 2023, Month: 2, Day: 29}}, api.ErrForm},
		{script.Command{Op: script.Hire, Who: "ann"}, api.ErrForm}, {script.Command{Op: script.Code, Who: "ann", Code: api.Code{Scheme: 8, Kind: 1}}, api.ErrForm}, {script.Command{Op: script.Code, Who: "ann", Code: api.Code{Kind: 1, Amount: 1}}, api.ErrForm},
		{script.Command{Op: script.Pay, Who: "ann"}, api.ErrForm}, {script.Command{Op: script.Pay, Who: "ann", Element: api.Element{Kind: "salary", Amount: most + 1, Units: 100}}, api.ErrOverflow}, {script.Command{Op: script.Pay, Who: "ann", Element: api.Element{Kind: "salary", Units: -1}}, api.ErrRange}, {script.Command{Op: script.Pay, Who: "ann", Element: api.Element{Kind: "salary", Units: 100_001}}, api.ErrRange},
		{script.Command{Op: script.Pay, Who: "ann", Element: api.Element{Kind: "salary 5.00", Amount: 200, Units: 100}}, api.ErrForm}, {script.Command{Op: script.Pay, Who: "ann", Element: api.Element{Kind: strings.Repeat("a ", 40), Amount: 200, Units: 100}}, api.ErrForm}, {script.Command{Op: script.Pay, Who: "ann", Element: api.Element{Amount: 200, Units: 200}}, api.ErrForm}, {script.Command{Op: script.Pay, Who: "ann", Element: api.Element{Kind: "salary", Amount: math.MinInt64, Units: 100}}, api.ErrOverflow}, {script.Command{Op: script.Pay, Who: "ann", Element: api.Element{Kind: "salary", Amount: math.MaxInt32 * 1000, Units: math.MaxInt64}}, api.ErrOverflow},
		{script.Command{Op: script.Order, Who: "ann"}, api.ErrRange}, {script.Command{Op: script.Order, Who: "ann", Order: api.Order{ID: 7}}, api.ErrForm}, {script.Command{Op: script.Order, Who: "ann", Order: api.Order{ID: 7, Rate: 10001}}, api.ErrRate}, {script.Command{Op: script.Order, Who: "ann", Order: api.Order{ID: 7, Amount: most + 1}}, api.ErrOverflow},
		{script.Command{Op: script.Cancel, Who: "ann", Order: api.Order{ID: 1_000_000_000}}, api.ErrRange}, {script.Command{Op: script.Slip, Who: "ann", Period: math.MinInt}, api.ErrRange}, {script.Command{Op: script.Fix, Who: "ann", Period: 1}, api.ErrForm}, {script.Command{Op: script.Fix, Who: "ann", Period: math.MaxInt, Element: api.Element{Kind: "salary"}}, api.ErrRange},
		{script.Command{Op: script.Gross, Who: "ann", Amount: -most - 1}, api.ErrOverflow}, {script.Command{Op: script.Budget, Who: "ann", Amount: math.MaxInt64}, api.ErrOverflow},
		// What such a command doesn't tell.
		{script.Command{Op: script.Books, Who: "ann"}, api.ErrCommand}, {script.Command{Op: script.Books, Words: []string{"x"}}, api.ErrCommand}, {script.Command{Op: script.Run, Who: "ann", Period: 1}, api.ErrCommand}, {script.Command{Op: script.Cancel, Who: "ann", Order: api.Order{ID: 7, Priority: 1}}, api.ErrCommand},
		{script.Command{Op: script.Fix, Who: "ann", Period: 1, Element: api.Element{Kind: "salary", Units: 100}}, api.ErrCommand}, {script.Command{Op: script.Fix, Who: "ann", Period: 1, Element: api.Element{Kind: "salary", Amount: 500}}, api.ErrCommand}, {script.Command{Op: script.Set, Words: []string{"x"}, Who: "ann"}, api.ErrCommand}, {script.Command{Op: script.Run, Who: "ann", Words: []string{""}}, api.ErrCommand},
		{script.Command{Op: script.Protect, Who: "ann", Code: api.Code{Kind: api.CodeNone}}, api.ErrCommand}, {script.Command{Op: script.Total, Who: "ann", Start: api.Date{Day: 1}}, api.ErrCommand}, {script.Command{Op: script.Undo, Who: "ann", Freq: 1}, api.ErrCommand},
		// Decode's error is ahead of that; of what isn't written none.
		{script.Command{Op: script.Run, Who: "Ann", Period: 1}, api.ErrForm}, {script.Command{Op: script.Books, Who: "\x00"}, api.ErrCommand}, {script.Command{Op: script.Run, Who: "ann", Amount: most + 1}, api.ErrCommand},
	} {
		sameEncode(t, x.c, "", x.want)
	}
	// The longest that may be.
	sameEncode(t, script.Command{Op: script.Set, Words: []string{long[1:]}}, "set "+long[1:], api.OK)
	sameEncode(t, script.Command{Op: script.Set, Words: slices.Repeat([]string{"a"}, 31)}, "set"+strings.Repeat(" a", 31), api.OK)
	sameEncode(t, script.Command{Op: script.Books, Words: []string{}}, "books", api.OK)
}

// P29.3: what a line is written without.
func TestEncode(t *testing.T) {
	c, e := script.Decode(`  pay ann hourly 12.5 x2.00 # so`)
	if e != api.ErrForm {
		t.Errorf("%+v %v", c, e)
	}
	for line, want := range map[string]string{
		"pay ann hourly 12.50 x2.00 # so": "pay ann hourly 12.50 x2.00", "pay ann hourly 12 x1": "pay ann hourly 12.00", "pay ann hourly -12 x0": "pay ann hourly -12.00 x0.00",
		`set "a" "b c"   d#`: `set a "b c" d`, ` "gross"   ann 5`: "gross ann 5.00", "order ann 7 2 50 0 0": "order ann 7 2 50.00 0 0.00", "books #": "books",
	} {
		c, e := script.Decode(line)
		if e != api.OK {
			t.Errorf("Decode(%q): %v", line, e)
		}
		sameEncode(t, c, want, api.OK)
	}
}

// P29.4: all commands of a text, or the first line that is wrong.
func TestCommands(t *testing.T) {
	run, books := script.Command{Op: script.Run, Who: "ann"}, script.Command{Op: script.Books}
	for _, x := range []struct {
		text string
		want []script.Command
		n    int
		e    api.Errno
	}{
		{"", nil, 0, api.OK}, {"\n", nil, 0, api.OK}, {"\n\n# x\n   \n", nil, 0, api.OK},
		{"run ann", []script.Command{run}, 0, api.OK}, {"run ann\n", []script.Command{run}, 0, api.OK}, {"run ann\nbooks\nrun ann", []script.Command{run, books, run}, 0, api.OK},
		{"\n# first\nbooks # so\n\n\nrun ann\n\n", []script.Command{books, run}, 0, api.OK},
		{"nope", nil, 1, api.ErrCommand}, {"books\nrun\n", nil, 2, api.ErrForm}, {"\n\nnope\nrun", nil, 3, api.ErrCommand}, {"# x\nbooks\nopen nope\nnope", nil, 3, api.ErrFreq},
		{"books\r\nbooks", nil, 1, api.ErrForm}, {"books\n" + strings.Repeat("x", 513), nil, 2, api.ErrLong}, {"books\n\x00", nil, 2, api.ErrForm},
		{strings.Repeat("\n", 100_000) + "gross ann x", nil, 100_001, api.ErrForm},
	} {
		list, n, e := script.Commands(x.text)
		if !slices.EqualFunc(list, x.want, same) || n != x.n || e != x.e {
			t.Errorf("Commands(%.60q): %+v %d %v, not %+v %d %v", x.text, list, n, e, x.want, x.n, x.e)
		}
	}
	var text string
	var want []script.Command
	for _, x := range told {
		text, want = text+x.line+"\n", append(want, x.c)
	}
	if list, n, e := script.Commands(text); !slices.EqualFunc(list, want, same) || n != 0 || e != api.OK {
		t.Errorf("Commands of all: %+v %d %v", list, n, e)
	}
}
