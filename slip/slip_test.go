package slip_test

import (
	"fmt"
	"math"
	"math/big"
	"math/rand"
	"reflect"
	"slices"
	"strconv"
	"strings"
	"testing"

	"stipend/api"
	"stipend/slip"
	"stipend/social"
	"stipend/table"
	"stipend/word"
)

const (
	top     = 100_000_000_000 // as the document tells them
	periods = 53
)

// edges: numbers at which something may go over.
var edges = []int64{math.MinInt64, math.MinInt64 + 1, -top * 2, -top - 1, -top, -top + 1, -top / 2, -100, -1, 0, 1, 50, 1000, top / 2, top - 1, top, top + 1, top * 2, math.MaxInt64 - 1, math.MaxInt64}

// may: may amounts be?
func may(list ...int64) bool {
	return !slices.ContainsFunc(list, func(x int64) bool { return x < -top || x > top })
}

// one: amounts one by one put to a first one, or, by a sign of -1, taken from it; false, if one, or what it is so far, may not be.
func one(first, sign int64, list ...int64) (int64, bool) {
	if !may(first) || !may(list...) {
		return 0, false
	}
	for _, x := range list {
		if first += x * sign; !may(first) {
			return 0, false
		}
	}
	return first, true
}

// bases: these bases.
func bases(cash, taxable, social int64) api.Bases {
	return api.Bases{Cash: cash, Taxable: taxable, Social: social}
}

// row: shares of these sides, the employee's and the employer's in turn.
func row(sides ...int64) social.Row {
	var list social.Row
	for i := 0; i+1 < len(sides); i += 2 {
		list = append(list, api.Share{Employee: sides[i], Employer: sides[i+1]})
	}
	return list
}

// came: what an order came to.
func came(id int, brought, ordered, taken, carried int64) api.Taken {
	return api.Taken{Order: id, Brought: brought, Ordered: ordered, Due: brought + ordered, Taken: taken, Carried: carried}
}

// takes: what orders took, of which nothing else is told.
func takes(list ...int64) []api.Taken {
	var all []api.Taken
	for i, x := range list {
		all = append(all, api.Taken{Order: i + 1, Taken: x})
	}
	return all
}

// alike: are two payslips the same, field by field?
func alike(a, b api.Slip) bool {
	if len(a.Shares) == 0 && len(b.Shares) == 0 {
		a.Shares, b.Shares = nil, nil
	}
	if len(a.Taken) == 0 && len(b.Taken) == 0 {
		a.Taken, b.Taken = nil, nil
	}
	return reflect.DeepEqual(a, b)
}

// named: a table with contributions of these names.
func named(t *testing.T, names ...string) api.Table {
	t.Helper()
	lines := []string{"limit 5000", "round down", "scheme 0.00:2000", "kind salary + + +"}
	for _, name := range names {
		lines = append(lines, "contrib "+name+" social up 0.00 0.00 0.00:500:600")
	}
	x, n, e := table.Read(lines...)
	if e != api.OK {
		t.Fatalf("Read: %d, %v", n, e)
	}
	return x
}

// netted: what Net must tell.
func netted(cash, tax int64, list social.Row) (int64, api.Errno) {
	var employees, employers []int64
	for _, s := range list {
		employees, employers = append(employees, s.Employee), append(employers, s.Employer)
	}
	side, ok := one(0, 1, employees...)
	if _, right := one(0, 1, employers...); !ok || !right {
		return 0, api.ErrOverflow
	}
	net, ok := one(cash, -1, tax, side)
	if !ok {
		return 0, api.ErrOverflow
	}
	return net, api.OK
}

// made: what Make must tell.
func made(k int, b api.Bases, tax, short int64, list social.Row, taken ...api.Taken) (api.Slip, api.Errno) {
	net, e := netted(b.Cash, tax, list)
	if e != api.OK {
		return api.Slip{}, e
	}
	var took []int64
	for _, x := range taken {
		took = append(took, x.Taken)
	}
	all, ok := one(0, 1, took...)
	pay, right := one(net, -1, all)
	if !ok || !right {
		return api.Slip{}, api.ErrOverflow
	}
	if k < 1 || k > periods {
		return api.Slip{}, api.ErrRange
	}
	if !may(b.Taxable, b.Social, short) {
		return api.Slip{}, api.ErrOverflow
	}
	return api.Slip{Period: k, Bases: b, Tax: tax, Shortfall: short, Shares: list, Net: net, Taken: taken, Pay: pay}, api.OK
}

// P20.1: what is left, coin by coin.
func TestNet(t *testing.T) {
	for _, c := range []struct {
		cash, tax int64
		list      social.Row
		want      int64
		e         api.Errno
	}{
		{1000, 100, row(50, 60), 850, api.OK}, {0, 0, nil, 0, api.OK}, {1000, 100, nil, 900, api.OK}, {1000, -100, row(50, 60, 7, 8, -3, -4), 1046, api.OK}, {-1000, 100, row(0, top), -1100, api.OK}, {5, 10, row(3, 0), -8, api.OK},
		{top, 0, row(0, 0), top, api.OK}, {top, top, row(top, top), -top, api.OK}, {-top, -top, row(-top, 0), top, api.OK}, {top - 1, -1, nil, top, api.OK}, {1 - top, 0, row(1, 0), -top, api.OK}, {top, 0, row(top, 0, -top, 0, 5, 0), top - 5, api.OK},
		{top, -1, row(1, 0), 0, api.ErrOverflow}, {-top, 1, row(-1, 0), 0, api.ErrOverflow}, {0, -top, row(-1, 0), 0, api.ErrOverflow}, {0, 0, row(top, 0, 1, 0), 0, api.ErrOverflow}, {0, 0, row(0, top, 0, 1), 0, api.ErrOverflow}, {0, 0, row(0, -top-1), 0, api.ErrOverflow}, {0, 0, row(top, 0, 1, 0, -1, 0), 0, api.ErrOverflow},
		{top + 1, 1, nil, 0, api.ErrOverflow}, {-top - 1, -1, nil, 0, api.ErrOverflow}, {1, top + 1, nil, 0, api.ErrOverflow}, {math.MinInt64, math.MinInt64, nil, 0, api.ErrOverflow}, {math.MaxInt64, math.MaxInt64, row(1, 1), 0, api.ErrOverflow}, {1, 1, row(top+1, 0), 0, api.ErrOverflow}, {1, 1, row(math.MinInt64, 0, math.MaxInt64, 0), 0, api.ErrOverflow},
	} {
		if got, e := slip.Net(c.cash, c.tax, c.list); got != c.want || e != c.e {
			t.Errorf("Net(%d, %d, %v): %d, %v, not %d, %v", c.cash, c.tax, c.list, got, e, c.want, c.e)
		}
	}
	for _, cash := range edges {
		for _, tax := range edges {
			for _, side := range edges {
				for _, list := range []social.Row{row(side, 5), row(side, 5, 7, -side), row(1, side)} {
					want, wantE := netted(cash, tax, list)
					if got, e := slip.Net(cash, tax, list); got != want || e != wantE {
						t.Fatalf("Net(%d, %d, %v): %d, %v, not %d, %v", cash, tax, list, got, e, want, wantE)
					}
				}
			}
		}
	}
}

// P20.1: payslips put together.
func TestMake(t *testing.T) {
	want := api.Slip{Period: 3, Bases: bases(1000, 900, 800), Tax: 100, Shortfall: 7, Shares: row(50, 60), Net: 850, Taken: []api.Taken{came(4, 5, 60, 50, 15)}, Pay: 800}
	if got, e := slip.Make(3, bases(1000, 900, 800), 100, 7, row(50, 60), came(4, 5, 60, 50, 15)); e != api.OK || !alike(got, want) || got.Cash != 1000 {
		t.Errorf("Make: %v, %v, not %v", got, e, want) // the document's example
	}
	for _, c := range []struct {
		k          int
		b          api.Bases
		tax, short int64
		list       social.Row
		taken      []api.Taken
		e          api.Errno
	}{
		{1, bases(0, 0, 0), 0, 0, nil, nil, api.OK}, {53, bases(-5, 6, 7), -8, -9, row(1, 2, 3, 4), takes(5, -6, 7), api.OK}, {1, bases(top, -top, top), top, -top, row(top, top), nil, api.OK}, {1, bases(top, 0, 0), top, 0, row(top, 0), takes(-top, top, -top), api.OK}, {2, bases(9, 9, 9), 1, 0, slices.Repeat(row(1, 2), 100), nil, api.OK},
		{0, bases(5, 5, 5), 0, 0, nil, nil, api.ErrRange}, {54, bases(5, 5, 5), 0, 0, nil, nil, api.ErrRange}, {math.MinInt, bases(5, 5, 5), 0, 0, nil, nil, api.ErrRange}, {math.MaxInt, bases(5, top+1, 5), 0, 0, nil, nil, api.ErrRange}, {-1, bases(5, 5, 5), 0, top + 1, nil, nil, api.ErrRange},
		{1, bases(5, top+1, 5), 0, 0, nil, nil, api.ErrOverflow}, {1, bases(5, 5, -top-1), 0, 0, nil, nil, api.ErrOverflow}, {1, bases(5, 5, 5), 0, top + 1, nil, nil, api.ErrOverflow}, {1, bases(5, 5, 5), 0, math.MinInt64, nil, nil, api.ErrOverflow},
		// Of the period is told only behind what is left.
		{0, bases(top+1, 0, 0), 0, 0, nil, nil, api.ErrOverflow}, {0, bases(top, 0, 0), -1, 0, nil, nil, api.ErrOverflow}, {0, bases(-top, 0, 0), 0, 0, row(1, 0), nil, api.ErrOverflow}, {54, bases(0, 0, 0), 0, 0, row(0, top, 0, 1), nil, api.ErrOverflow}, {0, bases(0, 0, 0), 0, 0, nil, takes(top, 1, -1), api.ErrOverflow}, {0, bases(0, 0, 0), 0, 0, nil, takes(top + 1), api.ErrOverflow}, {0, bases(-1, 0, 0), 0, 0, nil, takes(top), api.ErrOverflow}, {0, bases(top, 0, 0), 0, 0, nil, takes(-1), api.ErrOverflow},
		{1, bases(-1, 0, 0), 0, 0, nil, takes(top), api.ErrOverflow}, {1, bases(0, 0, 0), 0, 0, nil, takes(-top, -1), api.ErrOverflow}, {1, bases(1, 0, 0), top + 1, 0, nil, nil, api.ErrOverflow},
	} {
		want, wantE := made(c.k, c.b, c.tax, c.short, c.list, c.taken...)
		got, e := slip.Make(c.k, c.b, c.tax, c.short, c.list, c.taken...)
		if wantE != c.e || e != c.e || !alike(got, want) {
			t.Errorf("Make(%d, %v, %d, %d, %v, %v): %v, %v, not %v, %v (%v)", c.k, c.b, c.tax, c.short, c.list, c.taken, got, e, want, c.e, wantE)
		}
	}
}

// P20.1: at all edges.
func TestMakeMany(t *testing.T) {
	r := rand.New(rand.NewSource(201))
	amount := func() int64 {
		if r.Intn(8) > 0 {
			return r.Int63n(2000) - 500
		}
		return edges[r.Intn(len(edges))]
	}
	told := map[api.Errno]int{}
	for range 50_000 {
		k, b, tax, short := r.Intn(60)-2, bases(amount(), amount(), amount()), amount(), amount()
		var list social.Row
		var taken []api.Taken
		for range r.Intn(3) {
			list = append(list, row(amount(), amount())...)
		}
		for range r.Intn(3) {
			taken = append(taken, came(r.Intn(9), r.Int63n(9), amount(), amount(), 5))
		}
		want, wantE := made(k, b, tax, short, list, taken...)
		if got, e := slip.Make(k, b, tax, short, list, taken...); e != wantE || !alike(got, want) {
			t.Fatalf("Make(%d, %v, %d, %d, %v, %v): %v, %v, not %v, %v", k, b, tax, short, list, taken, got, e, want, wantE)
		}
		told[wantE]++
	}
	for _, e := range []api.Errno{api.OK, api.ErrOverflow, api.ErrRange} {
		if told[e] < 1000 {
			t.Errorf("only %d times %v", told[e], e)
		}
	}
}

// put: the payslip of these, which hangs together.
func put(t *testing.T, k int, b api.Bases, tax, short int64, list social.Row, taken ...api.Taken) api.Slip {
	t.Helper()
	s, e := slip.Make(k, b, tax, short, list, taken...)
	if e != api.OK {
		t.Fatalf("Make: %v", e)
	}
	return s
}

// short: the payslip of the document's example, with a contribution `care`, and its lines.
func short(t *testing.T) (api.Table, api.Slip, []string) {
	t.Helper()
	s := put(t, 3, bases(1000, 1100, 900), 100, 5, row(50, 60), came(7, 10, 45, 50, 5))
	return named(t, "care"), s, []string{"period 3", "cash 10.00", "taxable 11.00", "social 9.00", "tax 1.00 0.05", "share care 0.50 0.60", "net 8.50", "order 7 0.10 0.45 0.50 0.05", "pay 8.00"}
}

// P20.2: the lines, in their order.
func TestLines(t *testing.T) {
	x, s, want := short(t)
	if got, e := slip.Lines(x, s); e != api.OK || !slices.Equal(got, want) {
		t.Errorf("Lines: %q, %v, not %q", got, e, want)
	}
	for _, c := range []struct {
		names []string
		s     api.Slip
		want  []string
	}{
		{nil, put(t, 53, bases(0, 0, 0), 0, 0, nil), []string{"period 53", "cash 0.00", "taxable 0.00", "social 0.00", "tax 0.00 0.00", "net 0.00", "pay 0.00"}},
		{[]string{"b", "a", "c"}, put(t, 1, bases(-1, -top, top), -12_345, -6, row(1, 2, 0, -3, 100, 200), came(9, 0, 1, 2, 3), came(8, 4, 5, -6, 7)), []string{"period 1", "cash -0.01", "taxable -1000000000.00", "social 1000000000.00", "tax -123.45 -0.06", "share b 0.01 0.02", "share a 0.00 -0.03", "share c 1.00 2.00", "net 122.43", "order 9 0.00 0.01 0.02 0.03", "order 8 0.04 0.05 -0.06 0.07", "pay 122.47"}},
		{nil, put(t, 1, bases(0, 0, 0), 0, 0, nil, api.Taken{Order: -7, Brought: math.MinInt64, Ordered: math.MaxInt64, Due: 9, Carried: -1}, came(7, 0, 0, 0, 0), came(7, 0, 0, 0, 0)), []string{"period 1", "cash 0.00", "taxable 0.00", "social 0.00", "tax 0.00 0.00", "net 0.00", "order -7 -92233720368547758.08 92233720368547758.07 0.00 -0.01", "order 7 0.00 0.00 0.00 0.00", "order 7 0.00 0.00 0.00 0.00", "pay 0.00"}},
	} {
		if got, e := slip.Lines(named(t, c.names...), c.s); e != api.OK || !slices.Equal(got, c.want) {
			t.Errorf("Lines(%v): %q, %v, not %q", c.s, got, e, c.want)
		}
	}
}

// P20.2: what doesn't hang together, with as many contributions as the table has, has no lines.
func TestLinesRefuses(t *testing.T) {
	for _, c := range []struct {
		names  []string
		change func(*api.Slip)
		e      api.Errno
	}{
		{[]string{"care"}, func(s *api.Slip) { s.Period = 0 }, api.ErrRange}, {[]string{"care"}, func(s *api.Slip) { s.Period = 54 }, api.ErrRange}, {nil, func(s *api.Slip) { s.Period = 54 }, api.ErrRange}, {nil, func(s *api.Slip) {}, api.ErrMissing}, {[]string{"care", "jobs"}, func(s *api.Slip) {}, api.ErrMissing}, {[]string{"care"}, func(s *api.Slip) { s.Shares = nil; s.Net++ }, api.ErrMissing},
		{[]string{"care"}, func(s *api.Slip) { s.Shares[0].Employer = top + 1 }, api.ErrOverflow}, {[]string{"care"}, func(s *api.Slip) { s.Taxable = top + 1 }, api.ErrOverflow}, {[]string{"care"}, func(s *api.Slip) { s.Taken[0].Taken = top + 1 }, api.ErrOverflow}, {[]string{"care"}, func(s *api.Slip) { s.Net++ }, api.ErrForm}, {[]string{"care"}, func(s *api.Slip) { s.Pay++ }, api.ErrForm}, {[]string{"care"}, func(s *api.Slip) { s.Taken = nil }, api.ErrForm},
	} {
		_, s, _ := short(t)
		c.change(&s)
		if got, e := slip.Lines(named(t, c.names...), s); e != c.e || len(got) != 0 {
			t.Errorf("Lines(%v) of %q: %q, %v, not %v", s, c.names, got, e, c.e)
		}
	}
}

// parses tells a test's fault, if Parse answers otherwise.
func parses(t *testing.T, x api.Table, lines []string, want api.Slip, wantE api.Errno) {
	t.Helper()
	if got, e := slip.Parse(x, lines...); e != wantE || !alike(got, want) {
		t.Errorf("Parse(%q): %v, %v, not %v, %v", lines, got, e, want, wantE)
	}
}

// P20.3: lines are read as they are written; blanks, quotes and what is behind a # don't matter.
func TestParse(t *testing.T) {
	x, s, lines := short(t)
	parses(t, x, lines, s, api.OK)
	for i, line := range lines {
		for _, other := range []string{" " + line, line + "  ", strings.ReplaceAll(line, " ", "   "), line + "#", line + " # pay \" \xff", `"` + strings.ReplaceAll(line, " ", `" "`) + `"`, line + strings.Repeat(" ", 400)} {
			changed := slices.Clone(lines)
			changed[i] = other
			parses(t, x, changed, s, api.OK)
		}
	}
	// An amount may be written without what is behind the point; Due is what was brought and ordered together, whatever it was.
	changed := slices.Clone(lines)
	changed[1], changed[7] = "cash 10", "order -7 1000000000 999999999.99 0.50 -5"
	want := s
	want.Taken = []api.Taken{{Order: -7, Brought: top, Ordered: top - 1, Due: top*2 - 1, Taken: 50, Carried: -500}}
	parses(t, x, changed, want, api.OK)
	want = s
	want.Taken = []api.Taken{came(7, 10, 45, 50, 5)}
	s.Taken = []api.Taken{{Order: 7, Brought: 10, Ordered: 45, Due: 99, Taken: 50, Carried: 5}}
	wrong, e := slip.Lines(x, s)
	if e != api.OK {
		t.Fatal(e)
	}
	parses(t, x, wrong, want, api.OK)
	// Of no contributions, and of many orders.
	none := put(t, 53, bases(-5, 6, -7), 8, -9, nil, slices.Repeat([]api.Taken{came(999_999_999, 0, 1, 1, 0)}, 300)...)
	lines, e = slip.Lines(named(t), none)
	if e != api.OK || len(lines) != 307 {
		t.Fatalf("Lines: %d, %v", len(lines), e)
	}
	parses(t, named(t), lines, none, api.OK)
}

// swapped: lines, of which one stands as others.
func swapped(lines []string, i int, by ...string) []string {
	return slices.Concat(lines[:i], by, lines[i+1:])
}

// P20.3: each line that isn't the next one, is missing, is there twice, or has other than its number of words.
func TestParseForm(t *testing.T) {
	x, _, lines := short(t)
	const order = 7
	refused := func(list []string) {
		t.Helper()
		parses(t, x, list, api.Slip{}, api.ErrForm)
	}
	for i, line := range lines {
		for _, other := range []string{"", "  ", "# so", strings.ToUpper(line), "x" + line, line + " 0.00", line + " x", line + ` ""`, line[:strings.LastIndexByte(line, ' ')], strings.Fields(line)[0], strings.ReplaceAll(line, " ", ""), `""`, `"" ` + line, strings.Fields(line)[0] + " x" + line[len(strings.Fields(line)[0]):], `"` + line + `"`, "total 5.00", "-", "0"} {
			refused(swapped(lines, i, other))
		}
		refused(swapped(lines, i, "", line))
		refused(swapped(lines, i, line, ""))
		refused(lines[:i])
		for j := range lines {
			if j != i {
				changed := slices.Clone(lines)
				changed[i], changed[j] = lines[j], lines[i]
				refused(changed)
			}
		}
		if i != order {
			refused(swapped(lines, i))
			refused(swapped(lines, i, line, line))
		}
	}
	refused(append(slices.Clone(lines), lines[order]))
	refused(append(slices.Clone(lines), "x"))
	refused(append(slices.Clone(lines), lines...))
	// Contributions are the table's, in its order.
	share := slices.Index(lines, "share care 0.50 0.60")
	for _, other := range []string{"share jobs 0.50 0.60", "share Care 0.50 0.60", "share 0.50 0.60", `share "care " 0.50 0.60`, "share car 0.50 0.60", "care 0.50 0.60", "share care jobs 0.50 0.60", "share care 0.50 0.60 0.00"} {
		refused(swapped(lines, share, other))
	}
	refused(swapped(lines, share, "share care 0.50 0.60", "share jobs 0.00 0.00"))
	parses(t, named(t), lines, api.Slip{}, api.ErrForm)
	parses(t, named(t, "jobs"), lines, api.Slip{}, api.ErrForm)
	parses(t, named(t, "care", "jobs"), lines, api.Slip{}, api.ErrForm)
	two := named(t, "care", "jobs")
	s := put(t, 1, bases(9, 9, 9), 0, 0, row(1, 2, 3, 4))
	lines, _ = slip.Lines(two, s)
	parses(t, two, lines, s, api.OK)
	lines[5], lines[6] = lines[6], lines[5]
	parses(t, two, lines, api.Slip{}, api.ErrForm)
	parses(t, named(t, "jobs", "care"), lines, put(t, 1, bases(9, 9, 9), 0, 0, row(3, 4, 1, 2)), api.OK)
}

// P20.3: each word that is no whole number, or no amount, with its layer's error; of each two the first one.
func TestParseWords(t *testing.T) {
	x, _, lines := short(t)
	amounts := map[string]api.Errno{"1.0": api.ErrForm, "01.00": api.ErrForm, "x": api.ErrForm, "-0.00": api.ErrForm, "": api.ErrForm, "1000000000.01": api.ErrOverflow, "-1000000000.01": api.ErrOverflow, "+1": api.ErrForm, "99999999999999999999": api.ErrOverflow, "999999999999999999999": api.ErrForm}
	numbers := map[string]api.Errno{"1.00": api.ErrForm, "01": api.ErrForm, "-0": api.ErrForm, "": api.ErrForm, "x": api.ErrForm, "1000000000": api.ErrRange, "-9999999999": api.ErrRange, "1 ": api.ErrForm}
	quoted := func(w string) string { return `"` + w + `"` }
	type wrong struct {
		line, word int
		to         string
		e          api.Errno
	}
	var all []wrong
	for i, line := range lines {
		words := strings.Fields(line)
		first := 1
		if words[0] == "share" {
			first = 2
		}
		for j := range words {
			list := amounts
			if (words[0] == "period" || words[0] == "order") && j == 1 {
				list = numbers
			}
			for w, e := range list {
				if j >= first {
					all = append(all, wrong{i, j, quoted(w), e})
				}
			}
		}
	}
	change := func(lines []string, w wrong) {
		words := strings.Fields(lines[w.line])
		words[w.word] = w.to
		lines[w.line] = strings.Join(words, " ")
	}
	for _, a := range all {
		changed := slices.Clone(lines)
		change(changed, a)
		parses(t, x, changed, api.Slip{}, a.e)
		for _, b := range all {
			if b.line < a.line || b.line == a.line && b.word <= a.word || strings.Contains(a.to+b.to, " ") {
				continue
			}
			changed := slices.Clone(lines)
			change(changed, a)
			change(changed, b)
			if got, e := slip.Parse(x, changed...); e != a.e || !alike(got, api.Slip{}) {
				t.Fatalf("Parse(%q): %v, %v, not %v", changed, got, e, a.e)
			}
		}
	}
	if len(all) < 100 {
		t.Errorf("only %d words", len(all))
	}
}

// P20.3: Cut's error of a line is ahead of all else of it, and of all that is wrong in a later one.
func TestParseCut(t *testing.T) {
	x, s, lines := short(t)
	long, many := strings.Repeat(" ", 513), strings.Repeat("a ", 33)
	for i, line := range lines {
		for _, c := range []struct {
			by string
			e  api.Errno
		}{
			{long, api.ErrLong}, {line + long, api.ErrLong}, {many, api.ErrLong}, {line + "\t", api.ErrForm}, {line + ` "`, api.ErrForm}, {line + "\x7f", api.ErrForm}, {"é", api.ErrForm}, {`a"b"`, api.ErrForm},
		} {
			parses(t, x, swapped(lines, i, c.by), api.Slip{}, c.e)
			changed := swapped(lines, i, c.by)
			for j := range changed {
				if j > i {
					changed[j] = "x"
				}
			}
			parses(t, x, changed, api.Slip{}, c.e)
			parses(t, x, swapped(lines, i, c.by)[:i+1], api.Slip{}, c.e)
			if i > 0 {
				changed := swapped(lines, i, c.by)
				changed[i-1] = "x"
				parses(t, x, changed, api.Slip{}, api.ErrForm)
				changed = swapped(lines, i, c.by)
				changed[0] = "period 1000000000"
				parses(t, x, changed, api.Slip{}, api.ErrRange)
			}
		}
	}
	full := lines[0] + strings.Repeat(" ", 512-len(lines[0]))
	parses(t, x, swapped(lines, 0, full), s, api.OK)
	parses(t, x, swapped(lines, 0, full+" "), api.Slip{}, api.ErrLong)
	parses(t, x, nil, api.Slip{}, api.ErrForm)
}

// P20.3: behind all lines, Check's error.
func TestParseChecks(t *testing.T) {
	x, _, lines := short(t)
	for _, c := range []struct {
		i  int
		by string
		e  api.Errno
	}{
		{0, "period 0", api.ErrRange}, {0, "period 54", api.ErrRange}, {0, "period -3", api.ErrRange}, {0, "period 999999999", api.ErrRange}, {1, "cash 10.01", api.ErrForm}, {1, "cash -10.00", api.ErrForm}, {4, "tax 1.01 0.05", api.ErrForm}, {5, "share care 0.51 0.60", api.ErrForm}, {6, "net 8.51", api.ErrForm}, {7, "order 7 0.10 0.45 0.51 0.05", api.ErrForm}, {8, "pay 8.01", api.ErrForm}, {8, "pay -8.00", api.ErrForm},
	} {
		parses(t, x, swapped(lines, c.i, c.by), api.Slip{}, c.e)
		// A line that is wrong by itself is told ahead of it.
		changed := swapped(lines, c.i, c.by)
		parses(t, x, changed[:8], api.Slip{}, api.ErrForm)
		parses(t, x, append(changed, "pay 8.00"), api.Slip{}, api.ErrForm)
	}
	parses(t, x, swapped(lines, 0, "period 54")[:8], api.Slip{}, api.ErrForm)
	parses(t, x, append(swapped(lines, 0, "period 54"), strings.Repeat(" ", 513)), api.Slip{}, api.ErrLong)
	parses(t, x, swapped(lines, 7), api.Slip{}, api.ErrForm) // the order is left out, but taken
	parses(t, x, swapped(lines, 7, "order 7 0.00 0.00 1000000000.00 0.00", "order 7 0.00 0.00 0.01 0.00"), api.Slip{}, api.ErrOverflow)
	two := []string{"period 1", "cash 0.00", "taxable 0.00", "social 0.00", "tax 0.00 0.00", "share a 0.00 1000000000.00", "share b 0.00 0.01", "net 0.00", "pay 0.00"}
	parses(t, named(t, "a", "b"), two, api.Slip{}, api.ErrOverflow)
}

// P20.2, P20.3: what is written is read as it was, and what is read is written so.
func TestRound(t *testing.T) {
	r := rand.New(rand.NewSource(203))
	amount := func() int64 {
		if r.Intn(5) == 0 {
			return []int64{-top, -1, 0, 1, top}[r.Intn(5)]
		}
		return r.Int63n(300_000) - 100_000
	}
	names := []string{"care", "jobs", "a", "share", "net", "pay"}
	n := 0
	for range 3000 {
		x := named(t, names[:r.Intn(len(names)+1)]...)
		var list social.Row
		var taken []api.Taken
		for range x.Contribs {
			list = append(list, row(amount(), amount())...)
		}
		for range r.Intn(5) {
			taken = append(taken, came(r.Intn(999_999)+1, amount(), amount(), amount(), amount()))
		}
		s, e := slip.Make(r.Intn(periods)+1, bases(amount(), amount(), amount()), amount(), amount(), list, taken...)
		if e != api.OK {
			continue
		}
		n++
		lines, e := slip.Lines(x, s)
		if e != api.OK || len(lines) != 7+len(list)+len(taken) {
			t.Fatalf("Lines(%v): %q, %v", s, lines, e)
		}
		parses(t, x, lines, s, api.OK)
		if got, _ := slip.Parse(x, lines...); !slip.Same(got, s) {
			t.Errorf("Same(%v, %v)", got, s)
		}
	}
	if n < 500 {
		t.Errorf("only %d hung together", n)
	}
}

// reading is what a payslip's lines tell, as a reader by another way takes them: all its words, and what they come to.
type reading struct {
	slip api.Slip
	e    api.Errno
}

// amount: a word as an amount, in big numbers.
func (r *reading) amount(w string) int64 {
	digits, sign := strings.CutPrefix(w, "-")
	whole, rest, point := strings.Cut(digits, ".")
	plain := func(s string) bool { return s != "" && strings.Trim(s, "0123456789") == "" }
	if !plain(whole) || len(whole) > 1 && whole[0] == '0' || point && (!plain(rest) || len(rest) != 2) || len(digits) > 20 {
		r.e = api.ErrForm
		return 0
	}
	if !point {
		rest = "00"
	}
	n, _ := new(big.Int).SetString(whole+rest, 10)
	if sign && n.Sign() == 0 {
		r.e = api.ErrForm
		return 0
	}
	if n.Cmp(big.NewInt(top)) > 0 {
		r.e = api.ErrOverflow
		return 0
	}
	if sign {
		n.Neg(n)
	}
	return n.Int64()
}

// number: a word as a whole number.
func (r *reading) number(w string) int {
	digits := strings.TrimPrefix(w, "-")
	switch n, e := strconv.Atoi(w); {
	case digits == "" || strings.Trim(digits, "0123456789") != "" || len(digits) > 1 && digits[0] == '0' || w == "-0":
		r.e = api.ErrForm
	case len(digits) > 9 || e != nil:
		r.e = api.ErrRange
	default:
		return n
	}
	return 0
}

// take: a line's words, in the place at which they stand; the place of the next one.
func (r *reading) take(x api.Table, place int, words []string) int {
	heads := []string{"period", "cash", "taxable", "social", "tax"}
	for _, c := range x.Contribs {
		heads = append(heads, "share "+c.Name)
	}
	heads = append(heads, "net", "order", "pay")
	head := strings.Join(words[:min(len(words), 1)], " ")
	if head == "share" && len(words) > 1 {
		head += " " + words[1]
	}
	if place < len(heads) && heads[place] == "order" && head == "pay" {
		place++
	}
	counts := map[string]int{"tax": 3, "share": 4, "order": 6}
	want := 2
	if len(words) > 0 && counts[words[0]] > 0 {
		want = counts[words[0]]
	}
	if place >= len(heads) || head != heads[place] || len(words) != want {
		r.e = api.ErrForm
		return place
	}
	var list []int64
	rest := words[len(strings.Fields(head)):]
	id := 0
	if head == "period" || head == "order" {
		id, rest = r.number(rest[0]), rest[1:]
	}
	for _, w := range rest {
		if r.e == api.OK {
			list = append(list, r.amount(w))
		}
	}
	if r.e != api.OK {
		return place
	}
	s := &r.slip
	switch {
	case head == "period":
		s.Period = id
	case head == "order":
		s.Taken = append(s.Taken, came(id, list[0], list[1], list[2], list[3]))
		return place
	case head == "tax":
		s.Tax, s.Shortfall = list[0], list[1]
	case words[0] == "share":
		s.Shares = append(s.Shares, api.Share{Employee: list[0], Employer: list[1]})
	case head == "cash":
		s.Cash = list[0]
	case head == "taxable":
		s.Taxable = list[0]
	case head == "social":
		s.Social = list[0]
	case head == "net":
		s.Net = list[0]
	case head == "pay":
		s.Pay = list[0]
	}
	return place + 1
}

// read: what Parse must tell.
func read(x api.Table, lines []string) (api.Slip, api.Errno) {
	r := &reading{}
	place := 0
	for _, line := range lines {
		words, e := word.Cut(line)
		if e != api.OK {
			return api.Slip{}, e
		}
		if place = r.take(x, place, words); r.e != api.OK {
			return api.Slip{}, r.e
		}
	}
	if place != 8+len(x.Contribs) {
		return api.Slip{}, api.ErrForm
	}
	s := r.slip
	want, e := made(s.Period, s.Bases, s.Tax, s.Shortfall, s.Shares, s.Taken...)
	if s.Period < 1 || s.Period > periods {
		return api.Slip{}, api.ErrRange
	}
	if e == api.OK && !alike(want, s) {
		return api.Slip{}, api.ErrForm
	}
	return want, e
}

// P20.3: lines and words changed by chance, against a reader by another way.
func TestParseMany(t *testing.T) {
	r := rand.New(rand.NewSource(204))
	words := []string{"period", "cash", "taxable", "social", "tax", "share", "care", "net", "order", "pay", "0", "1", "54", "0.00", "-0.01", "1.00", "1.5", "-0", `""`, "#", "x", "1000000000", "1000000000.01", "1234567890", "\t"}
	pick := func() string { return words[r.Intn(len(words))] }
	told := map[api.Errno]int{}
	for range 60_000 {
		x := named(t, []string{"care", "jobs", "net"}[:r.Intn(4)]...)
		var list social.Row
		for range x.Contribs {
			list = append(list, row(r.Int63n(300)-100, r.Int63n(300)-100)...)
		}
		s, _ := slip.Make(r.Intn(periods)+1, bases(r.Int63n(9000), r.Int63n(900), 5), r.Int63n(900)-100, r.Int63n(9), list, []api.Taken{came(1, 2, 3, 4, 1), came(5, 0, 60, 60, 0)}[:r.Intn(3)]...)
		lines, e := slip.Lines(x, s)
		if e != api.OK {
			t.Fatal(e)
		}
		for range r.Intn(3) {
			i := r.Intn(len(lines))
			fields := append(strings.Fields(lines[i]), "x")
			at := r.Intn(len(fields) - 1)
			switch r.Intn(7) {
			case 0:
				fields[at] = pick()
				lines[i] = strings.Join(fields[:len(fields)-1], " ")
			case 1:
				lines[i] = strings.Join(slices.Insert(fields[:len(fields)-1], at, pick()), "  ")
			case 2:
				lines[i] = strings.Join(slices.Delete(fields[:len(fields)-1], at, at+1), " ")
			case 3:
				lines = slices.Insert(lines, r.Intn(len(lines)+1), pick()+" "+pick())
			case 4:
				if len(lines) > 1 {
					lines = slices.Delete(lines, i, i+1)
				}
			case 5:
				lines = slices.Insert(lines, r.Intn(len(lines)+1), lines[i])
			case 6:
				lines[i] += []string{" ", "#", " # x", "x", " ", "   "}[r.Intn(6)]
			}
		}
		want, wantE := read(x, lines)
		if got, e := slip.Parse(x, lines...); e != wantE || !alike(got, want) {
			t.Fatalf("Parse(%q): %v, %v, not %v, %v", lines, got, e, want, wantE)
		}
		told[wantE]++
	}
	for _, e := range []api.Errno{api.OK, api.ErrForm, api.ErrRange, api.ErrOverflow} {
		if told[e] < 40 {
			t.Errorf("only %d times %v", told[e], e)
		}
	}
}

// P20.3: each field counts; no contributions are the same as none, and no orders.
func TestSame(t *testing.T) {
	whole := func() api.Slip {
		return api.Slip{Period: 1, Bases: bases(1, 2, 3), Tax: 4, Shortfall: 5, Shares: row(6, 7, 8, 9), Net: 10, Taken: []api.Taken{came(1, 2, 3, 4, 5), came(6, 7, 8, 9, 10)}, Pay: 12}
	}
	if !slip.Same(whole(), whole()) || !slip.Same(api.Slip{}, api.Slip{}) {
		t.Error("not the same")
	}
	x := whole()
	for i, to := range []*int64{&x.Cash, &x.Taxable, &x.Social, &x.Tax, &x.Shortfall, &x.Shares[0].Employee, &x.Shares[0].Employer, &x.Shares[1].Employee, &x.Shares[1].Employer, &x.Net, &x.Pay, &x.Taken[0].Brought, &x.Taken[0].Ordered, &x.Taken[1].Due, &x.Taken[1].Taken, &x.Taken[0].Carried} {
		for _, by := range []int64{1, -1, math.MinInt64} {
			*to += by
			if slip.Same(x, whole()) || slip.Same(whole(), x) {
				t.Errorf("the same, but for the amount %d", i)
			}
			*to -= by
		}
	}
	for _, to := range []*int{&x.Period, &x.Taken[0].Order, &x.Taken[1].Order} {
		*to++
		if slip.Same(x, whole()) || slip.Same(whole(), x) {
			t.Errorf("the same, but for a number: %v", x)
		}
		*to--
	}
	for _, c := range []struct {
		a, b func(*api.Slip)
		want bool
	}{
		{func(s *api.Slip) { s.Shares = nil }, func(s *api.Slip) { s.Shares = []api.Share{} }, true}, {func(s *api.Slip) { s.Taken = nil }, func(s *api.Slip) { s.Taken = []api.Taken{} }, true},
		{func(s *api.Slip) { s.Shares = nil }, func(s *api.Slip) { s.Shares = row(0, 0) }, false}, {func(s *api.Slip) { s.Taken = nil }, func(s *api.Slip) { s.Taken = make([]api.Taken, 1) }, false}, {func(s *api.Slip) { s.Shares = nil }, func(s *api.Slip) {}, false}, {func(s *api.Slip) { s.Taken = nil }, func(s *api.Slip) {}, false}, {func(s *api.Slip) { slices.Reverse(s.Shares) }, func(s *api.Slip) {}, false}, {func(s *api.Slip) { slices.Reverse(s.Taken) }, func(s *api.Slip) {}, false},
	} {
		a, b := whole(), whole()
		c.a(&a)
		c.b(&b)
		if slip.Same(a, b) != c.want || slip.Same(b, a) != c.want {
			t.Errorf("Same(%v, %v): %v", a, b, !c.want)
		}
	}
}

// spoil changes a payslip's lists, and their spare room.
func spoil(s api.Slip) {
	shares, taken := s.Shares[:cap(s.Shares)], s.Taken[:cap(s.Taken)]
	for i := range shares {
		shares[i] = api.Share{Employee: -77, Employer: -77}
	}
	for i := range taken {
		taken[i] = api.Taken{Order: -77}
	}
}

// P2: what is handed in stays as it is, its spare room too; no answer shares anything with it, nor with another one.
func TestMemory(t *testing.T) {
	list, taken := row(50, 60, -9, -9), []api.Taken{came(7, 10, 45, 50, 5), came(-9, -9, -9, -9, -9)}
	was, wasTaken := slices.Clone(list), slices.Clone(taken)
	x, want, lines := short(t)
	wasTable, wasLines := table.Clone(x), slices.Clone(lines)
	slip.Net(1000, 100, list[:1])
	first, _ := slip.Make(3, bases(1000, 1100, 900), 100, 5, list[:1], taken[:1]...)
	second, _ := slip.Make(3, bases(1000, 1100, 900), 100, 5, list[:1], taken[:1]...)
	spoil(second)
	told, _ := slip.Lines(x, first)
	again, _ := slip.Lines(x, first)
	clear(again[:cap(again)])
	read, _ := slip.Parse(x, lines...)
	more, _ := slip.Parse(x, lines...)
	spoil(more)
	slip.Same(first, read)
	if !alike(first, want) || !alike(read, want) || !slices.Equal(told, lines) {
		t.Errorf("an answer was changed: %v, %v, %q", first, read, told)
	}
	if !slices.Equal(list, was) || !slices.Equal(taken, wasTaken) || !slices.Equal(lines, wasLines) || !table.Same(x, wasTable) {
		t.Errorf("what is handed in was changed: %v, %v, %q, %v", list, taken, lines, x)
	}
	clear(list)
	clear(taken)
	clear(lines)
	if !alike(first, want) || !alike(read, want) {
		t.Errorf("what was handed in is kept: %v, %v", first, read)
	}
}

// wild: a payslip of any numbers.
func wild(r *rand.Rand) api.Slip {
	amount := func() int64 {
		if r.Intn(2) == 0 {
			return r.Int63n(9)
		}
		return edges[r.Intn(len(edges))]
	}
	s := api.Slip{Period: []int{math.MinInt, -1, 0, 1, 1, 2, 53, 54, math.MaxInt}[r.Intn(9)], Bases: bases(amount(), amount(), amount()), Tax: amount(), Shortfall: amount(), Net: amount(), Pay: amount()}
	for range r.Intn(3) {
		s.Shares = append(s.Shares, api.Share{Employee: amount(), Employer: amount()})
		s.Taken = append(s.Taken, api.Taken{Order: int(amount()), Brought: amount(), Ordered: amount(), Due: amount(), Taken: amount(), Carried: amount()})
	}
	return s
}

// P1, P2: no call panics, whatever it is given; beside an error all is zero; the same calls answer the same.
func TestEnds(t *testing.T) {
	r := rand.New(rand.NewSource(20))
	lines := []string{"period 1", "cash 0.00", "taxable 0.00", "social 0.00", "tax 0.00 0.00", "share  0.00 0.00", `share "" 0.00 0.00`, "share a 0.00 0.00", "net 0.00", "order 1 0 0 0 0", "order", "pay 0.00", "", "\xff\x00", "\"", "period 99", "cash -1"}
	names := []string{"a", "", "\xff\n", "a b", "a"}
	for range 20_000 {
		s, x := wild(r), api.Table{Limit: -5}
		for range r.Intn(4) {
			x.Contribs = append(x.Contribs, api.Contrib{Name: names[r.Intn(len(names))], Base: 99})
		}
		text := slices.Clone(lines[:r.Intn(len(lines)+1)])
		if r.Intn(2) == 0 {
			r.Shuffle(len(text), func(i, j int) { text[i], text[j] = text[j], text[i] })
		}
		told := func() string {
			defer func() {
				if why := recover(); why != nil {
					t.Errorf("%v, %v, %q: %v", s, x, text, why)
				}
			}()
			all := ""
			tell := func(s api.Slip, e api.Errno) {
				if e != api.OK && !alike(s, api.Slip{}) {
					t.Errorf("%v beside %v", s, e)
				}
				list, e2 := slip.Lines(x, s)
				if e2 != api.OK && len(list) != 0 {
					t.Errorf("%q beside %v", list, e2)
				}
				all += fmt.Sprint(s, e, list, e2)
			}
			net, e := slip.Net(s.Cash, s.Tax, s.Shares)
			if e != api.OK && net != 0 {
				t.Errorf("%d beside %v", net, e)
			}
			tell(s, api.OK)
			tell(slip.Make(s.Period, s.Bases, s.Tax, s.Shortfall, s.Shares, s.Taken...))
			tell(slip.Make(1, s.Bases, s.Tax, 0, nil))
			tell(slip.Parse(x, text...))
			tell(slip.Parse(api.Table{}, text...))
			return all + fmt.Sprint(net, e, slip.Same(s, wild(rand.New(rand.NewSource(1)))))
		}
		if told() != told() {
			t.Errorf("the same calls answer otherwise: %v, %v, %q", s, x, text)
		}
	}
}
