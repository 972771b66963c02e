package table_test

import (
	"fmt"
	"math"
	"math/rand"
	"reflect"
	"slices"
	"strings"
	"testing"

	"stipend/api"
	"stipend/table"
	"stipend/word"
)

// P9.4: the sample, the document's example, and the greatest table, each line of which can be cut.
func TestLines(t *testing.T) {
	if got := table.Lines(sample()); !slices.Equal(got, sampleLines()) {
		t.Errorf("Lines: %q", got)
	}
	for _, line := range table.Lines(greatest()) {
		if words, e := word.Cut(line); e != api.OK || strings.Join(words, " ") != line {
			t.Errorf("%q: %q, %v", line, words, e)
		}
	}
	if line := table.Lines(greatest())[2+8]; line != "contrib abcdefghijklmno0 taxable halfeven 1000000000.00 1000000000.00 0.00:10000:10000 999999999.94:10000:10000 999999999.95:10000:10000 999999999.96:10000:10000 999999999.97:10000:10000 999999999.98:10000:10000 999999999.99:10000:10000 1000000000.00:10000:10000" {
		t.Errorf("the greatest contribution: %q", line)
	}
}

// P9.4: each way of rounding and each base by its name, each number of a kind by its sign.
func TestLinesWords(t *testing.T) {
	for mode, name := range []string{1: "down", 2: "up", 3: "inward", 4: "halfup", 5: "halfeven", 6: "halfdown"} {
		if mode == 0 {
			continue
		}
		lines := table.Lines(with(func(t *api.Table) { t.Round, t.Contribs[0].Round = mode, mode }))
		if lines[1] != "round "+name || lines[4] != "contrib health social "+name+" 0.00 5000.00 0.00:500:700" {
			t.Errorf("%s: %q", name, lines)
		}
	}
	for base, name := range map[int]string{api.OnTaxable: "taxable", api.OnSocial: "social"} {
		if line := table.Lines(with(func(t *api.Table) { t.Contribs[0].Base = base }))[4]; !strings.HasPrefix(line, "contrib health "+name+" ") {
			t.Errorf("%s: %q", name, line)
		}
	}
	signs := []string{"-", "0", "+"}
	for i := range 27 {
		cash, taxable, social := i%3, i/3%3, i/9
		lines := table.Lines(with(func(t *api.Table) {
			t.Kinds[1] = api.Kind{Name: "car", Cash: cash - 1, Taxable: taxable - 1, Social: social - 1}
		}))
		if want := "kind car " + signs[cash] + " " + signs[taxable] + " " + signs[social]; lines[7] != want {
			t.Errorf("%q, not %q", lines[7], want)
		}
	}
}

// P9.4: nothing of a table that may not be.
func TestLinesWrong(t *testing.T) {
	for _, c := range wrong {
		if got := table.Lines(with(c.change)); len(got) != 0 {
			t.Errorf("with %s: %q", c.name, got)
		}
	}
}

// P9.4, P9.5: Read leads back from the lines of each table that may be.
func TestReadBack(t *testing.T) {
	for _, x := range append(right(), greatest()) {
		lines := table.Lines(x)
		got, n, e := table.Read(lines...)
		if !table.Same(got, x) || n != 0 || e != api.OK || !slices.Equal(table.Lines(got), lines) {
			t.Errorf("Read(%q): %v, %d, %v, not %v", lines, got, n, e, x)
		}
	}
}

// put: a line's words that are put to the sample, and what that changes.
var put = []struct {
	line string
	want func(t *api.Table)
}{
	{"limit 0", func(t *api.Table) { t.Limit = 0 }},
	{"limit 10000", func(t *api.Table) { t.Limit = 10_000 }},
	{"limit -5", func(t *api.Table) { t.Limit = -5 }},
	{"limit 999999999", func(t *api.Table) { t.Limit = 999_999_999 }},
	{"round halfdown", func(t *api.Table) { t.Round = api.HalfDown }},
	{"round up", func(t *api.Table) { t.Round = api.Up }},
	{"scheme 0.00:100", func(t *api.Table) { t.Schemes = append(t.Schemes, []api.Band{{Rate: 100}}) }},
	{"scheme 0:100 5:0", func(t *api.Table) { t.Schemes = append(t.Schemes, []api.Band{{Rate: 100}, {From: 500}}) }},
	{"scheme 7.00:-3 -1.00:20000", func(t *api.Table) {
		t.Schemes = append(t.Schemes, []api.Band{{From: 700, Rate: -3}, {From: -100, Rate: 20_000}})
	}},
	{"scheme", func(t *api.Table) { t.Schemes = append(t.Schemes, nil) }},
	{"scheme" + strings.Repeat(" 0.01:1", 9), func(t *api.Table) {
		t.Schemes = append(t.Schemes, slices.Repeat([]api.Band{{From: 1, Rate: 1}}, 9))
	}},
	{"contrib care social halfeven 1.00 2.00 0.00:1:2 3.00:4:5", func(t *api.Table) {
		t.Contribs = append(t.Contribs, api.Contrib{Name: "care", Base: api.OnSocial, Round: api.HalfEven, PeriodCeil: 100, YearCeil: 200, Bands: []api.Band{{Rate: 1, Employer: 2}, {From: 300, Rate: 4, Employer: 5}}})
	}},
	{"contrib health taxable down -1.00 -0.01 -0.02:-1:-2", func(t *api.Table) {
		t.Contribs = append(t.Contribs, api.Contrib{Name: "health", Base: api.OnTaxable, Round: api.Down, PeriodCeil: -100, YearCeil: -1, Bands: []api.Band{{From: -2, Rate: -1, Employer: -2}}})
	}},
	{`contrib "No name" taxable inward 0 0`, func(t *api.Table) {
		t.Contribs = append(t.Contribs, api.Contrib{Name: "No name", Base: api.OnTaxable, Round: api.Inward})
	}},
	{"kind bonus + 0 -", func(t *api.Table) { t.Kinds = append(t.Kinds, api.Kind{Name: "bonus", Cash: 1, Social: -1}) }},
	{`kind "" - + 0`, func(t *api.Table) { t.Kinds = append(t.Kinds, api.Kind{Cash: -1, Taxable: 1}) }},
	{"kind car 0 - +", func(t *api.Table) { t.Kinds = append(t.Kinds, api.Kind{Name: "car", Taxable: -1, Social: 1}) }},
}

// cut: a line's words.
func cut(t *testing.T, line string) []string {
	words, e := word.Cut(line)
	if e != api.OK {
		t.Fatalf("%q: %v", line, e)
	}
	return words
}

// P9.4: a line more at the end, or another limit or way, whatever may be.
func TestPut(t *testing.T) {
	for _, c := range put {
		if got, e := table.Put(sample(), cut(t, c.line)...); !table.Same(got, with(c.want)) || e != api.OK {
			t.Errorf("Put(%s): %v, %v, not %v", c.line, got, e, with(c.want))
		}
		var empty api.Table
		c.want(&empty)
		if got, e := table.Put(api.Table{}, cut(t, c.line)...); !table.Same(got, empty) || e != api.OK {
			t.Errorf("Put(%s) to nothing: %v, %v, not %v", c.line, got, e, empty)
		}
	}
	full := greatest()
	for _, line := range []string{"scheme 0.00:0", "contrib z taxable up 0 0 0:0:0", "kind z 0 0 0"} { // Put counts nothing
		got, e := table.Put(full, cut(t, line)...)
		if len(got.Schemes)+len(got.Contribs)+len(got.Kinds) != 8+6+12+1 || e != api.OK {
			t.Errorf("Put(%s) to the greatest: %v, %v", line, got, e)
		}
	}
}

// putWrong: words that are refused, and why.
var putWrong = []struct {
	words []string
	want  api.Errno
}{
	{nil, api.ErrForm},
	{[]string{""}, api.ErrForm}, {[]string{"Limit", "5"}, api.ErrForm}, {[]string{"limits", "5"}, api.ErrForm}, {[]string{"5", "limit"}, api.ErrForm}, {[]string{"limit 5"}, api.ErrForm}, {[]string{" limit", "5"}, api.ErrForm}, {[]string{"lim", "5"}, api.ErrForm},
	{[]string{"limit"}, api.ErrForm}, {[]string{"limit", "5", "5"}, api.ErrForm}, {[]string{"limit", "1000000000", "5"}, api.ErrForm},
	{[]string{"limit", ""}, api.ErrForm}, {[]string{"limit", "x"}, api.ErrForm}, {[]string{"limit", "5.00"}, api.ErrForm}, {[]string{"limit", "05"}, api.ErrForm}, {[]string{"limit", "1000000000"}, api.ErrRange}, {[]string{"limit", "-1000000000"}, api.ErrRange},
	{[]string{"round"}, api.ErrForm}, {[]string{"round", "up", "up"}, api.ErrForm}, {[]string{"round", ""}, api.ErrForm}, {[]string{"round", "Up"}, api.ErrForm}, {[]string{"round", "2"}, api.ErrForm},
	{[]string{"scheme", ""}, api.ErrForm}, {[]string{"scheme", ":"}, api.ErrForm}, {[]string{"scheme", "0.00"}, api.ErrForm}, {[]string{"scheme", "0.00:0:0"}, api.ErrForm}, {[]string{"scheme", "0.00:0:"}, api.ErrForm}, {[]string{"scheme", ":0.00:0"}, api.ErrForm},
	{[]string{"scheme", "0.00:"}, api.ErrForm}, {[]string{"scheme", ":5"}, api.ErrForm}, {[]string{"scheme", "0.0:5"}, api.ErrForm}, {[]string{"scheme", "0.00:5.00"}, api.ErrForm}, {[]string{"scheme", "0.00:x"}, api.ErrForm}, {[]string{"scheme", "5:0.00"}, api.ErrForm}, {[]string{"scheme", "0.00 :5"}, api.ErrForm},
	{[]string{"scheme", "0.00:5", "x"}, api.ErrForm}, {[]string{"scheme", "0.00:5", "1000000000.01:5"}, api.ErrOverflow}, {[]string{"scheme", "0.00:1000000000"}, api.ErrRange}, {[]string{"scheme", "0.00:5", "1.00:-1000000000"}, api.ErrRange},
	{[]string{"scheme", "1000000000.01:1000000000"}, api.ErrOverflow}, {[]string{"scheme", "1000000000.01:x"}, api.ErrOverflow}, {[]string{"scheme", "x:1000000000"}, api.ErrForm},
	{[]string{"scheme", "1000000000.01:0", "1.00:1000000000"}, api.ErrOverflow}, {[]string{"scheme", "0.00:1000000000", "1000000000.01:0"}, api.ErrRange}, {[]string{"scheme", "0.00:1000000000", "x:0"}, api.ErrRange}, {[]string{"scheme", "x:0", "0.00:1000000000"}, api.ErrForm},
	{[]string{"scheme", "0.00:1000000000", "5"}, api.ErrForm}, {[]string{"scheme", "1000000000.01:5", "0.00:0:0"}, api.ErrForm}, // the form is first
	{[]string{"contrib"}, api.ErrForm}, {[]string{"contrib", "a", "taxable", "up", "0"}, api.ErrForm}, {[]string{"contrib", "a", "cash", "up", "0", "0"}, api.ErrForm}, {[]string{"contrib", "a", "1", "up", "0", "0"}, api.ErrForm}, {[]string{"contrib", "a", "Taxable", "up", "0", "0"}, api.ErrForm},
	{[]string{"contrib", "a", "taxable", "ups", "0", "0"}, api.ErrForm}, {[]string{"contrib", "a", "taxable", "", "0", "0"}, api.ErrForm}, {[]string{"contrib", "a", "taxable", "up", "x", "0"}, api.ErrForm}, {[]string{"contrib", "a", "taxable", "up", "0", "0.5"}, api.ErrForm},
	{[]string{"contrib", "a", "taxable", "up", "1000000000.01", "0"}, api.ErrOverflow}, {[]string{"contrib", "a", "social", "up", "0", "-1000000000.01"}, api.ErrOverflow}, {[]string{"contrib", "a", "taxable", "up", "1000000000.01", "x"}, api.ErrOverflow}, {[]string{"contrib", "a", "taxable", "up", "x", "1000000000.01"}, api.ErrForm},
	{[]string{"contrib", "a", "taxable", "no", "1000000000.01", "0"}, api.ErrForm}, {[]string{"contrib", "a", "no", "up", "1000000000.01", "0"}, api.ErrForm}, {[]string{"contrib", "a", "taxable", "up", "1000000000.01", "0", "0.00:1"}, api.ErrForm},
	{[]string{"contrib", "a", "taxable", "up", "0", "0", "0.00:1"}, api.ErrForm}, {[]string{"contrib", "a", "taxable", "up", "0", "0", "0.00:1:2:3"}, api.ErrForm}, {[]string{"contrib", "a", "taxable", "up", "0", "0", "0.00:1:2", ""}, api.ErrForm}, {[]string{"contrib", "a", "taxable", "up", "0", "0", "::"}, api.ErrForm}, {[]string{"contrib", "a", "taxable", "up", "0", "0", "0.00:1:"}, api.ErrForm},
	{[]string{"contrib", "a", "taxable", "up", "0", "0", "1000000000.01:1:2"}, api.ErrOverflow}, {[]string{"contrib", "a", "taxable", "up", "0", "0", "0.00:1000000000:x"}, api.ErrRange}, {[]string{"contrib", "a", "taxable", "up", "0", "0", "0.00:x:1000000000"}, api.ErrForm}, {[]string{"contrib", "a", "taxable", "up", "0", "0", "0.00:1:1000000000"}, api.ErrRange},
	{[]string{"contrib", "a", "taxable", "up", "0", "1000000000.01", "0.00:1000000000:2"}, api.ErrOverflow}, {[]string{"contrib", "a", "taxable", "up", "0", "0", "0.00:1000000000:2", "1000000000.01:1:2"}, api.ErrRange},
	{[]string{"kind"}, api.ErrForm}, {[]string{"kind", "a", "+", "+"}, api.ErrForm}, {[]string{"kind", "a", "+", "+", "+", "+"}, api.ErrForm}, {[]string{"kind", "a", "1", "+", "+"}, api.ErrForm}, {[]string{"kind", "a", "+", "", "+"}, api.ErrForm}, {[]string{"kind", "a", "+", "+", "x"}, api.ErrForm}, {[]string{"kind", "a", "++", "+", "+"}, api.ErrForm}, {[]string{"kind", "a", "+", "-1", "+"}, api.ErrForm}, {[]string{"kind", "+", "+", "+"}, api.ErrForm},
}

// P9.4: with an error the table is answered as it is, whether it may be or not.
func TestPutWrong(t *testing.T) {
	for _, c := range putWrong {
		for _, x := range []api.Table{sample(), {}, {Limit: -9, Round: 99, Schemes: [][]api.Band{nil}, Kinds: []api.Kind{{Cash: 7}}}} {
			was := table.Clone(x)
			if got, e := table.Put(x, c.words...); !reflect.DeepEqual(got, was) || !reflect.DeepEqual(x, was) || e != c.want {
				t.Errorf("Put(%q): %v, %v, not %v", c.words, got, e, c.want)
			}
		}
	}
}

// reads tells a test's fault, if Read answers otherwise.
func reads(t *testing.T, want api.Table, wantN int, wantE api.Errno, lines ...string) {
	t.Helper()
	if got, n, e := table.Read(lines...); !reflect.DeepEqual(got, want) || n != wantN || e != wantE {
		t.Errorf("Read(%q): %v, %d, %v, not %v, %d, %v", lines, got, n, e, want, wantN, wantE)
	}
}

// P9.5: lines in any order, with blanks, quotes, and what is behind a #.
func TestRead(t *testing.T) {
	lines := sampleLines()
	reads(t, sample(), 0, api.OK, lines...)
	loose := []string{"", "# all of it", "limit 1", "round up"}
	for _, line := range lines {
		loose = append(loose, "  "+strings.ReplaceAll(line, " ", "   ")+" # "+line, "   ")
	}
	reads(t, sample(), 0, api.OK, loose...)
	mixed := slices.Concat(lines[6:], lines[4:6], lines[2:4], lines[:2])
	reads(t, sample(), 0, api.OK, mixed...)
	reads(t, sample(), 0, api.OK, strings.Split(strings.ReplaceAll(strings.Join(lines, "\n"), "health", `"health"`), "\n")...)
	swapped := with(func(t *api.Table) { t.Schemes[0], t.Schemes[1] = t.Schemes[1], t.Schemes[0] })
	lines[2], lines[3] = lines[3], lines[2]
	reads(t, swapped, 0, api.OK, lines...)
}

// P9.5: the first wrong line, which lines without words are counted ahead of, too.
func TestReadWrong(t *testing.T) {
	none := api.Table{}
	for _, c := range []struct {
		line string
		want api.Errno
	}{
		{`limit "5`, api.ErrForm}, {"limit\t5", api.ErrForm}, {strings.Repeat(" ", 513), api.ErrLong}, {"kind" + strings.Repeat(" +", 32), api.ErrLong}, {"set limit 5", api.ErrForm}, {`""`, api.ErrForm},
		{"limit 1000000000", api.ErrRange}, {"contrib a taxable up 1000000000.01 0", api.ErrOverflow}, {"round no", api.ErrForm}, {"kind a + + x", api.ErrForm}, {"scheme 0.00", api.ErrForm},
	} {
		lines := sampleLines()
		for i := range len(lines) + 1 {
			reads(t, none, i+1, c.want, slices.Insert(slices.Clone(lines), i, c.line)...)
			reads(t, none, i+4, c.want, slices.Insert(slices.Clone(lines), i, "", " # none", "  ", c.line, "no", `"`)...)
		}
		reads(t, none, 1, c.want, c.line)
		reads(t, none, 2, c.want, "limit 99999", c.line) // what may not be is told behind all lines
	}
}

// P9.5: the line by which there are too many; ahead of what is wrong behind it, but not of what it says wrong itself.
func TestReadLong(t *testing.T) {
	for _, c := range []struct {
		many                int
		line, wrong, behind string
	}{
		{maxSchemes, "scheme 0.00:0", "scheme x:0", "scheme x"},
		{maxContribs, "contrib n%d social up 0 0 0:0:0", "contrib a social x 0 0", "round x"},
		{maxKinds, "kind n%d + + +", "kind a + + x", "kind"},
	} {
		lines := []string{"limit 5000", "round down", "scheme 0.00:0", "kind first + + +"}
		had := 1
		if c.many == maxContribs {
			had = 0
		}
		for i := had; i < c.many; i++ {
			lines = append(lines, strings.ReplaceAll(c.line, "%d", fmt.Sprint(i)))
		}
		if _, n, e := table.Read(lines...); n != 0 || e != api.OK {
			t.Fatalf("Read(%q): %d, %v", lines, n, e)
		}
		all := append(slices.Clone(lines), "", c.line, c.behind)
		reads(t, api.Table{}, len(lines)+2, api.ErrLong, strings.Split(strings.ReplaceAll(strings.Join(all, "\n"), "%d", "-a"), "\n")...)
		reads(t, api.Table{}, len(lines)+1, api.ErrForm, append(slices.Clone(lines), c.wrong, c.behind)...)
	}
}

// P9.5: what the whole may not be, by the number 0.
func TestReadWhole(t *testing.T) {
	none := api.Table{}
	reads(t, none, 0, api.ErrRange)
	reads(t, none, 0, api.ErrRange, "", "#")
	reads(t, none, 0, api.ErrLong, "round up")
	reads(t, none, 0, api.ErrLong, "round up", "scheme 0:0")
	reads(t, api.Table{Round: api.Up, Schemes: [][]api.Band{{{}}}, Kinds: []api.Kind{{Name: "a"}}}, 0, api.OK, "round up", "scheme 0:0", "kind a 0 0 0")
	for _, c := range []struct {
		line string
		want api.Errno
	}{
		{"limit -1", api.ErrRate}, {"limit 10001", api.ErrRate}, {"scheme", api.ErrLong}, {"scheme" + strings.Repeat(" 0:0", 9), api.ErrLong}, {"scheme 1:0", api.ErrRange}, {"scheme 0:0 0:0", api.ErrOrder}, {"scheme 0:10001", api.ErrRate},
		{"contrib health social up 0 0 0:0:0", api.ErrTwice}, {"contrib A social up 0 0 0:0:0", api.ErrForm}, {"contrib a social up -1 0 0:0:0", api.ErrRange}, {"contrib a social up 0 0", api.ErrLong}, {"contrib a social up 0 0 0:0:-1", api.ErrRate},
		{"kind car 0 0 0", api.ErrTwice}, {`kind "" 0 0 0`, api.ErrForm},
	} {
		reads(t, none, 0, c.want, append(sampleLines(), c.line)...)
	}
}

// P9.5: lines that go and lines that come, each as often as it stands more often, the last ones of them.
func TestDiff(t *testing.T) {
	a, b, c := []api.Band{{Rate: 1}}, []api.Band{{Rate: 2}}, []api.Band{{Rate: 3}}
	line := map[int]string{1: "scheme 0.00:1", 2: "scheme 0.00:2", 3: "scheme 0.00:3"}
	of := func(list ...[]api.Band) api.Table { return with(func(t *api.Table) { t.Schemes = list }) }
	for _, x := range []struct {
		from, to  api.Table
		gone, new []int
	}{
		{of(a, b, a), of(a), []int{2, 1}, nil}, {of(a), of(a, b, a), nil, []int{2, 1}}, {of(a, b, a), of(b), []int{1, 1}, nil}, {of(a, b, a, c, a), of(a, a), []int{2, 3, 1}, nil}, {of(a, b, a, c, a), of(a), []int{2, 1, 3, 1}, nil},
		{of(a, a, b), of(b, b, a), []int{1}, []int{2}}, {of(a, b), of(b, a), nil, nil}, {of(a, b, c), of(c, b, a), nil, nil}, {of(a), of(b, b, c), []int{1}, []int{2, 2, 3}}, {of(a, a, a), of(a, a), []int{1}, nil}, {of(b, a, a, b), of(c, a, b), []int{1, 2}, []int{3}},
	} {
		var want []table.Change
		for _, n := range x.gone {
			want = append(want, table.Change{Line: line[n]})
		}
		for _, n := range x.new {
			want = append(want, table.Change{New: true, Line: line[n]})
		}
		if got := table.Diff(x.from, x.to); !slices.Equal(got, want) {
			t.Errorf("Diff(%v, %v): %v, not %v", x.from.Schemes, x.to.Schemes, got, want)
		}
	}
}

// P9.5: a table's lines of all kinds, and tables that may not be, which have none.
func TestDiffLines(t *testing.T) {
	to := with(func(t *api.Table) {
		t.Limit, t.Contribs[0].Base = 4000, api.OnTaxable
		t.Kinds = append(t.Kinds[1:], api.Kind{Name: "bonus", Cash: 1})
	})
	want := []table.Change{
		{Line: "limit 5000"}, {Line: "contrib health social halfup 0.00 5000.00 0.00:500:700"}, {Line: "kind salary + + +"},
		{New: true, Line: "limit 4000"}, {New: true, Line: "contrib health taxable halfup 0.00 5000.00 0.00:500:700"}, {New: true, Line: "kind bonus + 0 0"},
	}
	if got := table.Diff(sample(), to); !slices.Equal(got, want) {
		t.Errorf("Diff: %v", got)
	}
	if got := table.Diff(sample(), sample()); len(got) != 0 {
		t.Errorf("Diff of alike ones: %v", got)
	}
	for _, none := range []api.Table{{}, with(func(t *api.Table) { t.Limit = math.MaxInt })} {
		var goes, comes []table.Change
		for _, line := range sampleLines() {
			goes, comes = append(goes, table.Change{Line: line}), append(comes, table.Change{New: true, Line: line})
		}
		if !slices.Equal(table.Diff(sample(), none), goes) || !slices.Equal(table.Diff(none, sample()), comes) || len(table.Diff(none, none)) != 0 {
			t.Errorf("Diff with a table that may not be: %v, %v", table.Diff(sample(), none), table.Diff(none, sample()))
		}
	}
}

// P9.5: many tables, by chance: what goes taken off the end and what comes put there, line by line, lead from the one's lines to the other's.
func TestDiffMany(t *testing.T) {
	r := rand.New(rand.NewSource(95))
	chance := func() api.Table {
		return with(func(t *api.Table) {
			t.Schemes = nil
			for range 1 + r.Intn(maxSchemes) {
				t.Schemes = append(t.Schemes, []api.Band{{Rate: r.Intn(3)}})
			}
			t.Limit = r.Intn(2)
			t.Kinds = t.Kinds[:1+r.Intn(3)]
		})
	}
	for range 3000 {
		from, to := chance(), chance()
		was, is := table.Lines(from), table.Lines(to)
		var want []table.Change
		for _, line := range rest(was, is) {
			want = append(want, table.Change{Line: line})
		}
		for _, line := range rest(is, was) {
			want = append(want, table.Change{New: true, Line: line})
		}
		got, again := table.Diff(from, to), table.Diff(from, to)
		for i := range again[:cap(again)] {
			again[:cap(again)][i].Line = "x"
		}
		if !slices.Equal(got, want) {
			t.Fatalf("Diff of %q and %q: %v, not %v", was, is, got, want)
		}
	}
}

// rest: a list without the first of the lines that another one has, for each that it has.
func rest(list, other []string) []string {
	list = slices.Clone(list)
	for _, line := range other {
		if i := slices.Index(list, line); i >= 0 {
			list = slices.Delete(list, i, i+1)
		}
	}
	return list
}
