package table_test

import (
	"math"
	"math/rand"
	"reflect"
	"regexp"
	"slices"
	"strconv"
	"strings"
	"testing"
	"unsafe"

	"stipend/api"
	"stipend/band"
	"stipend/code"
	"stipend/table"
)

// The document's limits.
const (
	maxSchemes  = 8
	maxContribs = 6
	maxKinds    = 12
	mostBands   = 8
	full        = 10_000
	top         = 100_000_000_000
)

// sample: a table that may be.
func sample() api.Table {
	return api.Table{
		Limit: 5000,
		Round: api.Down,
		Schemes: [][]api.Band{
			{{}, {From: 100_000, Rate: 2000}, {From: 300_000, Rate: 4000}},
			{{Rate: 1000}},
		},
		Contribs: []api.Contrib{
			{Name: "health", Base: api.OnSocial, Bands: []api.Band{{Rate: 500, Employer: 700}}, YearCeil: 500_000, Round: api.HalfUp},
			{Name: "old-age", Base: api.OnTaxable, Bands: []api.Band{{}, {From: 5001, Rate: 900, Employer: 1}}, PeriodCeil: 50_005, Round: api.Up},
		},
		Kinds: []api.Kind{
			{Name: "salary", Cash: 1, Taxable: 1, Social: 1},
			{Name: "car", Taxable: 1},
			{Name: "saved", Cash: -1, Taxable: -1, Social: 0},
		},
	}
}

// sampleLines: the sample as it is written.
func sampleLines() []string {
	return []string{
		"limit 5000",
		"round down",
		"scheme 0.00:0 1000.00:2000 3000.00:4000",
		"scheme 0.00:1000",
		"contrib health social halfup 0.00 5000.00 0.00:500:700",
		"contrib old-age taxable up 500.05 0.00 0.00:0:0 50.01:900:1",
		"kind salary + + +",
		"kind car 0 + 0",
		"kind saved - - 0",
	}
}

// with: the sample with a change.
func with(change func(t *api.Table)) api.Table {
	t := sample()
	change(&t)
	return t
}

// names: so many names.
func names(n int) []string {
	list := make([]string, n)
	for i := range list {
		list[i] = "n" + strconv.Itoa(i)
	}
	return list
}

// rising: so many bands, one coin apart.
func rising(n int) []api.Band {
	list := make([]api.Band, n)
	for i := range list {
		list[i].From = int64(i)
	}
	return list
}

// schemes, contribs, kinds: so many that may be, if they aren't too many.
func schemes(n int) [][]api.Band {
	list := make([][]api.Band, n)
	for i := range list {
		list[i] = rising(1 + i%mostBands)
	}
	return list
}

func contribs(n int) []api.Contrib {
	list := make([]api.Contrib, n)
	for i, name := range names(n) {
		list[i] = api.Contrib{Name: name, Base: api.OnTaxable, Bands: rising(1), Round: api.Up}
	}
	return list
}

func kinds(n int) []api.Kind {
	list := make([]api.Kind, n)
	for i, name := range names(n) {
		list[i] = api.Kind{Name: name}
	}
	return list
}

func TestLimits(t *testing.T) {
	if table.MaxSchemes != maxSchemes || table.MaxContribs != maxContribs || table.MaxKinds != maxKinds {
		t.Error("the limits aren't the document's")
	}
}

// right: tables that may be, up to the edges of all that they have.
func right() []api.Table {
	list := []api.Table{sample()}
	add := func(change func(t *api.Table)) { list = append(list, with(change)) }
	for _, rate := range []int{0, 1, full - 1, full} {
		add(func(t *api.Table) { t.Limit = rate })
		add(func(t *api.Table) { t.Schemes[1][0].Rate = rate })
		add(func(t *api.Table) { t.Contribs[0].Bands[0].Employer = rate })
	}
	for mode := 1; mode <= 6; mode++ {
		add(func(t *api.Table) { t.Round = mode })
		add(func(t *api.Table) { t.Contribs[1].Round = mode })
	}
	for n := 1; n <= maxSchemes; n++ {
		add(func(t *api.Table) { t.Schemes = schemes(n) })
	}
	for n := 0; n <= maxContribs; n++ {
		add(func(t *api.Table) { t.Contribs = contribs(n) })
	}
	for n := 1; n <= maxKinds; n++ {
		add(func(t *api.Table) { t.Kinds = kinds(n) })
	}
	for _, x := range []int64{0, 1, top - 1, top} {
		add(func(t *api.Table) { t.Contribs[0].PeriodCeil = x })
		add(func(t *api.Table) { t.Contribs[1].YearCeil = x })
	}
	for n := -1; n <= 1; n++ {
		add(func(t *api.Table) { t.Kinds[0].Cash = n })
		add(func(t *api.Table) { t.Kinds[1].Taxable = n })
		add(func(t *api.Table) { t.Kinds[2].Social = n })
	}
	add(func(t *api.Table) { t.Schemes[0] = []api.Band{{}, {From: top, Rate: full}} })
	add(func(t *api.Table) { t.Contribs[0].Name, t.Kinds[0].Name = "z", "abcdefghijklmnop" })
	add(func(t *api.Table) { t.Contribs[0].Name = "car" }) // a kind's name
	return list
}

// greatest: a table with as much of all as may be.
func greatest() api.Table {
	wide := func() []api.Band {
		list := make([]api.Band, mostBands)
		for i := range list {
			list[i] = api.Band{From: top - mostBands + 1 + int64(i), Rate: full}
		}
		list[0].From = 0
		return list
	}
	t := api.Table{Limit: full, Round: api.HalfDown, Schemes: make([][]api.Band, maxSchemes), Contribs: contribs(maxContribs), Kinds: kinds(maxKinds)}
	for i := range t.Schemes {
		t.Schemes[i] = wide()
	}
	for i := range t.Contribs {
		c := &t.Contribs[i]
		c.Name, c.Bands, c.PeriodCeil, c.YearCeil, c.Round = "abcdefghijklmno"+strconv.Itoa(i), wide(), top, top, api.HalfEven
		for j := range c.Bands {
			c.Bands[j].Employer = full
		}
	}
	for i := range t.Kinds {
		t.Kinds[i] = api.Kind{Name: "abcdefghijklmn" + strconv.Itoa(10+i), Cash: -1, Taxable: -1, Social: -1}
	}
	return t
}

// P9.1: tables that may be.
func TestCheckRight(t *testing.T) {
	for _, x := range append(right(), greatest()) {
		if e := table.Check(x); e != api.OK {
			t.Errorf("Check(%v): %v", x, e)
		}
	}
}

// wrong: what a table may not have, in the order in which it is asked.
var wrong = []struct {
	name   string
	change func(t *api.Table)
	want   api.Errno
}{
	{"a limit below 0", func(t *api.Table) { t.Limit = -1 }, api.ErrRate},
	{"a limit above the whole", func(t *api.Table) { t.Limit = full + 1 }, api.ErrRate},
	{"the greatest limit", func(t *api.Table) { t.Limit = math.MaxInt }, api.ErrRate},
	{"the least limit", func(t *api.Table) { t.Limit = math.MinInt }, api.ErrRate},
	{"no way of rounding", func(t *api.Table) { t.Round = 0 }, api.ErrRange},
	{"no such way of rounding", func(t *api.Table) { t.Round = 7 }, api.ErrRange},
	{"a way below 0", func(t *api.Table) { t.Round = -1 }, api.ErrRange},
	{"no scheme", func(t *api.Table) { t.Schemes = nil }, api.ErrLong},
	{"no scheme, but not nil", func(t *api.Table) { t.Schemes = [][]api.Band{} }, api.ErrLong},
	{"a scheme too many", func(t *api.Table) { t.Schemes = schemes(maxSchemes + 1) }, api.ErrLong},
	{"many wrong schemes", func(t *api.Table) { t.Schemes = make([][]api.Band, 1000) }, api.ErrLong},
	{"an employer's rate in the first scheme", func(t *api.Table) { t.Schemes[0][2].Employer = 1 }, api.ErrRate},
	{"a scheme without bands", func(t *api.Table) { t.Schemes[1] = nil }, api.ErrLong},
	{"a scheme of too many bands", func(t *api.Table) { t.Schemes[1] = rising(mostBands + 1) }, api.ErrLong},
	{"a scheme that isn't from 0 on", func(t *api.Table) { t.Schemes[1] = []api.Band{{From: 1}} }, api.ErrRange},
	{"a scheme that falls", func(t *api.Table) { t.Schemes[1] = []api.Band{{}, {From: 5}, {From: 4}} }, api.ErrOrder},
	{"a scheme with a wrong rate", func(t *api.Table) { t.Schemes[1] = []api.Band{{Rate: full + 1}} }, api.ErrRate},
	{"an employer's rate, and bands that fall", func(t *api.Table) { t.Schemes[1] = []api.Band{{Employer: 1}, {}} }, api.ErrOrder},
	{"an employer's rate in the last scheme", func(t *api.Table) { t.Schemes[1][0].Employer = full }, api.ErrRate},
	{"a contribution too many", func(t *api.Table) { t.Contribs = contribs(maxContribs + 1) }, api.ErrLong},
	{"many wrong contributions", func(t *api.Table) { t.Contribs = make([]api.Contrib, 1000) }, api.ErrLong},
	{"a contribution without a name", func(t *api.Table) { t.Contribs[0].Name = "" }, api.ErrForm},
	{"a contribution with a wrong name", func(t *api.Table) { t.Contribs[0].Name = "Health" }, api.ErrForm},
	{"two contributions without a name", func(t *api.Table) { t.Contribs[0].Name, t.Contribs[1].Name = "", "" }, api.ErrForm},
	{"the first one's base", func(t *api.Table) { t.Contribs[0].Base = 0 }, api.ErrRange},
	{"two of a name, the first one without bands", func(t *api.Table) { t.Contribs[0].Bands, t.Contribs[1].Name = nil, "health" }, api.ErrLong},
	{"two contributions of a name", func(t *api.Table) { t.Contribs[1].Name = "health" }, api.ErrTwice},
	{"a long name", func(t *api.Table) { t.Contribs[1].Name = "abcdefghijklmnopq" }, api.ErrForm},
	{"a base below 0", func(t *api.Table) { t.Contribs[1].Base = -1 }, api.ErrRange},
	{"no such base", func(t *api.Table) { t.Contribs[1].Base = 3 }, api.ErrRange},
	{"a contribution without a way of rounding", func(t *api.Table) { t.Contribs[1].Round = 0 }, api.ErrRange},
	{"a contribution with no such way", func(t *api.Table) { t.Contribs[1].Round = 7 }, api.ErrRange},
	{"a period's ceiling below 0", func(t *api.Table) { t.Contribs[1].PeriodCeil = -1 }, api.ErrRange},
	{"a period's ceiling above the most", func(t *api.Table) { t.Contribs[1].PeriodCeil = top + 1 }, api.ErrRange},
	{"a year's ceiling below 0", func(t *api.Table) { t.Contribs[1].YearCeil = math.MinInt64 }, api.ErrRange},
	{"a year's ceiling above the most", func(t *api.Table) { t.Contribs[1].YearCeil = top + 1 }, api.ErrRange},
	{"the greatest number as ceilings", func(t *api.Table) {
		t.Contribs[1].PeriodCeil, t.Contribs[1].YearCeil = math.MaxInt64, math.MaxInt64
	}, api.ErrRange},
	{"a contribution without bands", func(t *api.Table) { t.Contribs[1].Bands = nil }, api.ErrLong},
	{"a contribution with a wrong employer's rate", func(t *api.Table) { t.Contribs[1].Bands = []api.Band{{Employer: -1}} }, api.ErrRate},
	{"a contribution that falls", func(t *api.Table) { t.Contribs[1].Bands = []api.Band{{}, {}} }, api.ErrOrder},
	{"no kind", func(t *api.Table) { t.Kinds = nil }, api.ErrLong},
	{"a kind too many", func(t *api.Table) { t.Kinds = kinds(maxKinds + 1) }, api.ErrLong},
	{"many wrong kinds", func(t *api.Table) { t.Kinds = make([]api.Kind, 1000) }, api.ErrLong},
	{"a kind without a name", func(t *api.Table) { t.Kinds[0].Name = "" }, api.ErrForm},
	{"the first kind's number", func(t *api.Table) { t.Kinds[0].Cash = 2 }, api.ErrRange},
	{"a kind with a wrong name", func(t *api.Table) { t.Kinds[1].Name = "a car" }, api.ErrForm},
	{"two kinds of a name", func(t *api.Table) { t.Kinds[1].Name = "salary" }, api.ErrTwice},
	{"two kinds of a name, both wrong", func(t *api.Table) { t.Kinds[1] = api.Kind{Name: "salary", Cash: 5} }, api.ErrTwice},
	{"three kinds of a name", func(t *api.Table) { t.Kinds[2].Name, t.Kinds[1].Name = "salary", "salary" }, api.ErrTwice},
	{"what is put to cash twice", func(t *api.Table) { t.Kinds[1].Cash = 2 }, api.ErrRange},
	{"what is taken from it twice", func(t *api.Table) { t.Kinds[1].Cash = -2 }, api.ErrRange},
	{"a wrong taxable", func(t *api.Table) { t.Kinds[1].Taxable = 2 }, api.ErrRange},
	{"a taxable below -1", func(t *api.Table) { t.Kinds[1].Taxable = math.MinInt }, api.ErrRange},
	{"a wrong social", func(t *api.Table) { t.Kinds[1].Social = math.MaxInt }, api.ErrRange},
	{"a social below -1", func(t *api.Table) { t.Kinds[1].Social = -2 }, api.ErrRange},
	{"the last kind twice", func(t *api.Table) { t.Kinds[2].Name = "car" }, api.ErrTwice},
}

// P9.1: each fault alone.
func TestCheckWrong(t *testing.T) {
	for _, c := range wrong {
		x := with(c.change)
		if e, f := table.Check(x), check(x); e != c.want || f != c.want {
			t.Errorf("Check with %s: %v, not %v (by the reference %v)", c.name, e, c.want, f)
		}
	}
	if e := table.Check(api.Table{}); e != api.ErrRange {
		t.Errorf("Check of the zero table: %v", e)
	}
}

// P9.1: of two faults the first one is told.
func TestCheckOrder(t *testing.T) {
	for _, a := range wrong {
		for _, b := range wrong {
			x, ok := both(a.change, b.change)
			if !ok {
				continue
			}
			if e, want := table.Check(x), check(x); e != want {
				t.Errorf("Check with %s and %s: %v, not %v", a.name, b.name, e, want)
			}
		}
	}
}

// both: the sample with two changes; false: the second one finds nothing to change.
func both(a, b func(t *api.Table)) (x api.Table, ok bool) {
	defer func() { ok = recover() == nil }()
	x = sample()
	a(&x)
	b(&x)
	return x, true
}

var name = regexp.MustCompile(`^[a-z][a-z0-9-]{0,15}$`)

// check: what Check must tell of a table, word by word as the document has it.
func check(t api.Table) api.Errno {
	if t.Limit < 0 || t.Limit > full {
		return api.ErrRate
	}
	if t.Round < 1 || t.Round > 6 {
		return api.ErrRange
	}
	if len(t.Schemes) < 1 || len(t.Schemes) > maxSchemes {
		return api.ErrLong
	}
	for _, s := range t.Schemes {
		if e := band.Check(s...); e != api.OK {
			return e
		}
		for _, b := range s {
			if b.Employer != 0 {
				return api.ErrRate
			}
		}
	}
	if len(t.Contribs) > maxContribs {
		return api.ErrLong
	}
	seen := map[string]bool{}
	for _, c := range t.Contribs {
		if !name.MatchString(c.Name) {
			return api.ErrForm
		}
		if seen[c.Name] {
			return api.ErrTwice
		}
		seen[c.Name] = true
		outside := func(x int64) bool { return x < 0 || x > top }
		if c.Base < 1 || c.Base > 2 || c.Round < 1 || c.Round > 6 || outside(c.PeriodCeil) || outside(c.YearCeil) {
			return api.ErrRange
		}
		if e := band.Check(c.Bands...); e != api.OK {
			return e
		}
	}
	return checkKinds(t.Kinds)
}

func checkKinds(list []api.Kind) api.Errno {
	if len(list) < 1 || len(list) > maxKinds {
		return api.ErrLong
	}
	seen := map[string]bool{}
	for _, k := range list {
		if !name.MatchString(k.Name) {
			return api.ErrForm
		}
		if seen[k.Name] {
			return api.ErrTwice
		}
		seen[k.Name] = true
		for _, n := range []int{k.Cash, k.Taxable, k.Social} {
			if n != -1 && n != 0 && n != 1 {
				return api.ErrRange
			}
		}
	}
	return api.OK
}

// P9.2: whether a code's scheme and band are there.
func TestFits(t *testing.T) {
	for _, c := range []struct {
		text string
		want api.Errno
	}{
		{"1257L", api.OK}, {"P0L", api.OK}, {"QK10", api.ErrScheme}, {"V0L", api.ErrScheme}, {"NT", api.OK}, {"PNTX", api.OK}, {"QNT", api.ErrScheme}, {"K1X", api.OK},
		{"D0", api.OK}, {"D2", api.OK}, {"D3", api.ErrCode}, {"D7X", api.ErrCode}, {"PD0", api.OK}, {"PD1", api.ErrCode}, {"QD0", api.ErrScheme}, {"QD7", api.ErrScheme},
	} {
		x, e := code.Parse(c.text)
		if e != api.OK {
			t.Fatal(c.text)
		}
		if e := table.Fits(sample(), x); e != c.want {
			t.Errorf("Fits(%s): %v, not %v", c.text, e, c.want)
		}
	}
}

// P9.2: all codes of small parts, those that may not be too, with tables of which some may not be.
func TestFitsAll(t *testing.T) {
	for _, x := range []api.Table{sample(), {}, {Schemes: [][]api.Band{nil, {}, rising(8)}}, {Schemes: schemes(8)}, {Schemes: make([][]api.Band, 20)}} {
		for i := range 2000 {
			c := api.Code{Scheme: i%10 - 1, Kind: i / 10 % 10, Flat: i/100%10 - 1, Amount: int64(i/1000) * 1000}
			want := api.OK
			if e := code.Check(c); e != api.OK {
				want = e
			} else if c.Scheme >= len(x.Schemes) {
				want = api.ErrScheme
			} else if c.Kind == api.CodeFlat && c.Flat >= len(x.Schemes[c.Scheme]) {
				want = api.ErrCode
			}
			if e := table.Fits(x, c); e != want {
				t.Errorf("Fits(%v, %v): %v, not %v", x, c, e, want)
			}
		}
	}
	for _, c := range []api.Code{{Scheme: math.MinInt, Kind: 1}, {Scheme: math.MaxInt, Kind: 1}} {
		if e := table.Fits(sample(), c); e != api.ErrScheme {
			t.Errorf("Fits(%v): %v", c, e)
		}
	}
	for _, c := range []api.Code{{}, {Kind: api.CodeFlat, Flat: math.MaxInt}, {Kind: api.CodeFlat, Flat: math.MinInt}, {Kind: api.CodeFree, Amount: 1}} {
		if e := table.Fits(sample(), c); e != api.ErrCode {
			t.Errorf("Fits(%v): %v", c, e)
		}
	}
}

// P9.3: kinds and contributions by their names, the first ones of them.
func TestNamed(t *testing.T) {
	x := sample()
	x.Kinds = append(x.Kinds, api.Kind{Name: "car", Social: -1}, api.Kind{Name: "", Cash: 9})
	x.Contribs = append(x.Contribs, api.Contrib{Name: "health"}, api.Contrib{Name: "Long name"})
	for _, c := range []struct {
		name string
		kind api.Kind
		e    api.Errno
		n    int
	}{
		{"salary", x.Kinds[0], api.OK, -1}, {"car", x.Kinds[1], api.OK, -1}, {"saved", x.Kinds[2], api.OK, -1}, {"", x.Kinds[4], api.OK, -1},
		{"health", api.Kind{}, api.ErrKind, 0}, {"old-age", api.Kind{}, api.ErrKind, 1}, {"Long name", api.Kind{}, api.ErrKind, 3},
		{"none", api.Kind{}, api.ErrKind, -1}, {"Car", api.Kind{}, api.ErrKind, -1}, {"ca", api.Kind{}, api.ErrKind, -1}, {"cars", api.Kind{}, api.ErrKind, -1}, {"Health", api.Kind{}, api.ErrKind, -1}, {"old", api.Kind{}, api.ErrKind, -1}, {"\xff", api.Kind{}, api.ErrKind, -1},
	} {
		if k, e := table.Kind(x, c.name); k != c.kind || e != c.e {
			t.Errorf("Kind(%q): %v, %v, not %v, %v", c.name, k, e, c.kind, c.e)
		}
		if n := table.Contrib(x, c.name); n != c.n {
			t.Errorf("Contrib(%q): %d, not %d", c.name, n, c.n)
		}
	}
	if k, e := table.Kind(api.Table{}, ""); k != (api.Kind{}) || e != api.ErrKind || table.Contrib(api.Table{}, "") != -1 {
		t.Error("of the zero table")
	}
}

// changes: each makes another table of the sample.
func changes() []func(t *api.Table) {
	list := []func(t *api.Table){
		func(t *api.Table) { t.Schemes = t.Schemes[:1] },
		func(t *api.Table) { t.Schemes = append(t.Schemes, nil) },
		func(t *api.Table) { t.Schemes[0], t.Schemes[1] = t.Schemes[1], t.Schemes[0] },
		func(t *api.Table) { t.Schemes[0] = t.Schemes[0][:2] },
		func(t *api.Table) { t.Schemes[0] = append(t.Schemes[0], api.Band{From: 300_001, Rate: 4000}) }, // comes to the same
		func(t *api.Table) { t.Schemes[0][1].From++ },
		func(t *api.Table) { t.Schemes[0][2].Rate++ },
		func(t *api.Table) { t.Schemes[1][0].Employer++ },
		func(t *api.Table) { t.Contribs = nil },
		func(t *api.Table) { t.Contribs = t.Contribs[:1] },
		func(t *api.Table) { t.Contribs[0], t.Contribs[1] = t.Contribs[1], t.Contribs[0] },
		func(t *api.Table) { t.Contribs[1].Name = "old" },
		func(t *api.Table) { t.Contribs[0].Base = api.OnTaxable },
		func(t *api.Table) { t.Contribs[1].PeriodCeil++ },
		func(t *api.Table) { t.Contribs[1].YearCeil++ },
		func(t *api.Table) { t.Contribs[0].Round++ },
		func(t *api.Table) { t.Contribs[0].Bands = nil },
		func(t *api.Table) { t.Contribs[1].Bands[1].From++ },
		func(t *api.Table) { t.Contribs[1].Bands[0].Rate++ },
		func(t *api.Table) { t.Contribs[1].Bands[1].Employer++ },
		func(t *api.Table) {
			t.Contribs[1].Bands = append(t.Contribs[1].Bands, api.Band{From: 9000, Rate: 900, Employer: 1})
		},
		func(t *api.Table) { t.Kinds = t.Kinds[:2] },
		func(t *api.Table) { t.Kinds[0], t.Kinds[1] = t.Kinds[1], t.Kinds[0] },
		func(t *api.Table) { t.Kinds[0].Name = "wage" },
		func(t *api.Table) { t.Kinds[1].Cash = 1 },
		func(t *api.Table) { t.Kinds[1].Taxable = 0 },
		func(t *api.Table) { t.Kinds[2].Social = -1 },
		func(t *api.Table) { t.Limit++ },
		func(t *api.Table) { t.Round++ },
	}
	return list
}

// P9.3: a table is the same as its clone, and as none that differs anywhere.
func TestSame(t *testing.T) {
	for i, a := range changes() {
		x := with(a)
		if !table.Same(x, with(a)) || !table.Same(table.Clone(x), x) {
			t.Errorf("change %d isn't the same as itself", i)
		}
		if table.Same(x, sample()) || table.Same(sample(), x) {
			t.Errorf("change %d is the same as the sample", i)
		}
		for j, b := range changes() {
			if i != j && table.Same(x, with(b)) {
				t.Errorf("changes %d and %d are the same", i, j)
			}
		}
	}
	if !table.Same(api.Table{}, api.Table{Schemes: [][]api.Band{}, Contribs: []api.Contrib{}, Kinds: []api.Kind{}}) {
		t.Error("none, and none that isn't nil")
	}
	if !table.Same(api.Table{Schemes: [][]api.Band{nil}, Contribs: []api.Contrib{{}}}, api.Table{Schemes: [][]api.Band{{}}, Contribs: []api.Contrib{{Bands: []api.Band{}}}}) {
		t.Error("no bands, and none that aren't nil")
	}
	if table.Same(api.Table{Schemes: [][]api.Band{nil}}, api.Table{}) {
		t.Error("a scheme without bands, and none")
	}
}

// P9.3: a clone is the same to the last nil, and no table that may not be is refused.
func TestClone(t *testing.T) {
	list := append(right(), greatest(), api.Table{}, api.Table{Limit: -5, Round: 99, Schemes: [][]api.Band{nil, {{From: -1}}}, Contribs: []api.Contrib{{}, {Name: "\xff"}}, Kinds: []api.Kind{{}, {Cash: 5}}})
	for _, c := range wrong {
		list = append(list, with(c.change))
	}
	for _, x := range list {
		if got := table.Clone(x); !reflect.DeepEqual(got, x) || !table.Same(got, x) {
			t.Errorf("Clone(%v): %v", x, got)
		}
	}
}

// P9.3: the ways of rounding, by their numbers and names.
func TestModes(t *testing.T) {
	for mode, name := range map[int]string{1: "down", 2: "up", 3: "inward", 4: "halfup", 5: "halfeven", 6: "halfdown"} {
		if got, e := table.Mode(name); got != mode || e != api.OK || table.ModeName(mode) != name {
			t.Errorf("%d, %s: %d, %v, %s", mode, name, got, e, table.ModeName(mode))
		}
	}
	for _, mode := range []int{math.MinInt, -1, 0, 7, 8, 256 + 1, math.MaxInt} {
		if got := table.ModeName(mode); got != "" {
			t.Errorf("ModeName(%d): %q", mode, got)
		}
	}
	for _, name := range []string{"", " ", "Down", "dow", "downs", "half", "HALFUP", "1", "\x00"} {
		if got, e := table.Mode(name); got != 0 || e != api.ErrForm {
			t.Errorf("Mode(%q): %d, %v", name, got, e)
		}
	}
}

// shares: is a text, or a part of it, where another one is?
func shares(a, b string) bool {
	from, to := uintptr(unsafe.Pointer(unsafe.StringData(a))), uintptr(unsafe.Pointer(unsafe.StringData(b)))
	return a != "" && b != "" && from < to+uintptr(len(b)) && to < from+uintptr(len(a))
}

// texts: all names of a table.
func texts(t api.Table) []string {
	var list []string
	for _, c := range t.Contribs {
		list = append(list, c.Name)
	}
	for _, k := range t.Kinds {
		list = append(list, k.Name)
	}
	return list
}

// roomy: a list with spare room of which nothing is zero.
func roomy[T any](list []T, more T) []T {
	return append(append(make([]T, 0, len(list)+2), list...), more, more)[:len(list)]
}

// roomyTable: a table all lists of which have spare room, and all names of which are memory of their own.
func roomyTable(t api.Table) api.Table {
	bad := api.Band{From: -7, Rate: -7, Employer: -7}
	for i := range t.Schemes {
		t.Schemes[i] = roomy(t.Schemes[i], bad)
	}
	t.Schemes = roomy(t.Schemes, []api.Band{bad})
	for i := range t.Contribs {
		t.Contribs[i].Bands = roomy(t.Contribs[i].Bands, bad)
		t.Contribs[i].Name = strings.Clone(t.Contribs[i].Name)
	}
	t.Contribs = roomy(t.Contribs, api.Contrib{Name: "bad", Bands: []api.Band{bad}})
	for i := range t.Kinds {
		t.Kinds[i].Name = strings.Clone(t.Kinds[i].Name)
	}
	t.Kinds = roomy(t.Kinds, api.Kind{Name: "bad"})
	return t
}

// whole: a table with what is in the spare room of its lists.
func whole(t api.Table) api.Table {
	all := api.Table{Limit: t.Limit, Round: t.Round}
	for _, s := range t.Schemes[:cap(t.Schemes)] {
		all.Schemes = append(all.Schemes, slices.Clone(s[:cap(s)]))
	}
	for _, c := range t.Contribs[:cap(t.Contribs)] {
		c.Bands = slices.Clone(c.Bands[:cap(c.Bands)])
		all.Contribs = append(all.Contribs, c)
	}
	all.Kinds = slices.Clone(t.Kinds[:cap(t.Kinds)])
	return all
}

// spoil: writes over all of a table's memory, its spare room too.
func spoil(t api.Table) {
	for _, s := range t.Schemes {
		s = s[:cap(s)]
		for i := range s {
			s[i] = api.Band{From: -77, Rate: -77, Employer: -77}
		}
	}
	for _, c := range t.Contribs {
		bands := c.Bands[:cap(c.Bands)]
		for i := range bands {
			bands[i] = api.Band{From: -77, Rate: -77, Employer: -77}
		}
	}
	for i := range t.Schemes[:cap(t.Schemes)] {
		t.Schemes[:cap(t.Schemes)][i] = nil
	}
	for i := range t.Contribs[:cap(t.Contribs)] {
		t.Contribs[:cap(t.Contribs)][i] = api.Contrib{Name: "spoilt"}
	}
	for i := range t.Kinds[:cap(t.Kinds)] {
		t.Kinds[:cap(t.Kinds)][i] = api.Kind{Name: "spoilt"}
	}
}

// P2: what is handed in stays as it is, its spare room too, and is shared with no answer, nor an answer with another one.
func TestMemory(t *testing.T) {
	contrib := []string{"contrib", strings.Clone("more"), "social", "up", "0.00", "0.00", "0.00:1:2"}
	kind := []string{"kind", strings.Clone("bonus"), "+", "+", "0"}
	for name, call := range map[string]func(x api.Table) api.Table{
		"Clone":              func(x api.Table) api.Table { return table.Clone(x) },
		"Put of a scheme":    func(x api.Table) api.Table { y, _ := table.Put(x, "scheme", "0.00:5"); return y },
		"Put of a contrib":   func(x api.Table) api.Table { y, _ := table.Put(x, contrib...); return y },
		"Put of a kind":      func(x api.Table) api.Table { y, _ := table.Put(x, kind...); return y },
		"Put of a limit":     func(x api.Table) api.Table { y, _ := table.Put(x, "limit", "7"); return y },
		"Put of nothing":     func(x api.Table) api.Table { y, _ := table.Put(x); return y },
		"Put of a wrong one": func(x api.Table) api.Table { y, _ := table.Put(x, "scheme", "0.00:5", "x:1"); return y },
		"Read":               func(x api.Table) api.Table { y, _, _ := table.Read(table.Lines(x)...); return y },
	} {
		x := roomyTable(sample())
		was := whole(x)
		words := slices.Concat(contrib, kind)
		got, again := call(x), call(x)
		want := table.Clone(got)
		for _, own := range texts(got) {
			if slices.ContainsFunc(slices.Concat(texts(x), texts(again), words), func(s string) bool { return shares(own, s) }) {
				t.Errorf("%s: the name %s is shared", name, own)
			}
		}
		spoil(again)
		if !reflect.DeepEqual(got, want) {
			t.Errorf("%s shares with another answer", name)
		}
		spoil(got)
		if !reflect.DeepEqual(whole(x), was) || !slices.Equal(slices.Concat(contrib, kind), words) {
			t.Errorf("%s changes or shares what is handed in", name)
		}
	}
}

// P2: no call changes a table; a kind's name and lines are new memory.
func TestMemoryOfTexts(t *testing.T) {
	x := roomyTable(sample())
	was := whole(x)
	wanted := strings.Clone("car")
	kind, _ := table.Kind(x, wanted)
	other, _ := table.Kind(x, wanted)
	if shares(kind.Name, x.Kinds[1].Name) || shares(kind.Name, wanted) || shares(kind.Name, other.Name) {
		t.Error("a kind's name is shared")
	}
	lines, again := table.Lines(x), table.Lines(x)
	for i := range again[:cap(again)] {
		again[:cap(again)][i] = "x"
	}
	if !slices.Equal(lines, sampleLines()) {
		t.Errorf("another answer was changed: %q", lines)
	}
	table.Check(x)
	table.Contrib(x, "health")
	table.Same(x, x)
	table.Fits(x, api.Code{Kind: api.CodeNone})
	table.Diff(x, x)
	given := append(table.Lines(x), "more")
	table.Read(given[:len(given)-1]...)
	if !reflect.DeepEqual(whole(x), was) || given[len(given)-1] != "more" {
		t.Error("what is handed in was changed")
	}
}

// raw: tables of wrong things, the same at each run.
func raw(r *rand.Rand) api.Table {
	amounts := []int64{math.MinInt64, -1, 0, 1, 100, top, top + 1, math.MaxInt64}
	numbers := []int{math.MinInt, -2, -1, 0, 1, 2, 6, 7, full, full + 1, math.MaxInt}
	texts := []string{"", "a", "b", "A", "\xff", "a b", strings.Repeat("z", 600)}
	number := func() int { return numbers[r.Intn(len(numbers))] }
	amount := func() int64 { return amounts[r.Intn(len(amounts))] }
	bands := func() []api.Band {
		list := make([]api.Band, r.Intn(10))
		for i := range list {
			list[i] = api.Band{From: amount(), Rate: number(), Employer: number()}
		}
		return list
	}
	t := api.Table{Limit: number(), Round: number()}
	for range r.Intn(10) {
		t.Schemes = append(t.Schemes, bands())
	}
	for range r.Intn(10) {
		t.Contribs = append(t.Contribs, api.Contrib{Name: texts[r.Intn(len(texts))], Base: number(), Bands: bands(), PeriodCeil: amount(), YearCeil: amount(), Round: number()})
	}
	for range r.Intn(20) {
		t.Kinds = append(t.Kinds, api.Kind{Name: texts[r.Intn(len(texts))], Cash: number(), Taxable: number(), Social: number()})
	}
	return t
}

// P1: no call panics, whatever it is given; P9.1 of it all.
func TestEnds(t *testing.T) {
	r := rand.New(rand.NewSource(9))
	words := []string{"limit", "round", "scheme", "contrib", "kind", "", "x", ":", "::", ":::", "0.00:1", "0.00:1:2", "1", "-1", "+", "0", "taxable", "up", "\xff", strings.Repeat(":", 600)}
	for range 3000 {
		x, y := raw(r), raw(r)
		list := make([]string, r.Intn(9))
		for i := range list {
			list[i] = words[r.Intn(len(words))]
		}
		func() {
			defer func() {
				if why := recover(); why != nil {
					t.Errorf("%v, %v, %q: %v", x, y, list, why)
				}
			}()
			if e, want := table.Check(x), check(x); e != want {
				t.Errorf("Check(%v): %v, not %v", x, e, want)
			}
			table.Fits(x, api.Code{Scheme: r.Intn(12) - 2, Kind: r.Intn(6), Flat: r.Intn(12) - 2})
			table.Kind(x, words[r.Intn(len(words))])
			table.Contrib(x, words[r.Intn(len(words))])
			if table.Same(x, y) != reflect.DeepEqual(x, y) {
				t.Errorf("Same(%v, %v)", x, y)
			}
			table.Mode(words[r.Intn(len(words))])
			table.ModeName(r.Int())
			if got, e := table.Put(x, list...); e != api.OK && !reflect.DeepEqual(got, x) {
				t.Errorf("Put(%v, %q): %v, %v", x, list, got, e)
			}
			table.Read(list...)
			table.Read(strings.Join(list, " "))
			if check(x) != api.OK && len(table.Lines(x)) != 0 || check(x) != api.OK && check(y) != api.OK && len(table.Diff(x, y)) != 0 {
				t.Errorf("lines of %v or %v", x, y)
			}
		}()
	}
}
