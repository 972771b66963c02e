package social_test

import (
	"fmt"
	"math"
	"math/big"
	"math/rand"
	"slices"
	"testing"

	"stipend/api"
	"stipend/pair"
	"stipend/social"
	"stipend/table"
)

const (
	top  = 100_000_000_000 // as the document tells them
	full = 10_000
	most = 64
)

// edges: numbers at which something may go over.
var edges = []int64{math.MinInt64, math.MinInt64 + 1, -top * 2, -top - 1, -top, -top + 1, -1000, -1, 0, 1, 999, 1000, 1001, top - 1, top, top + 1, top * 2, math.MaxInt64 - 1, math.MaxInt64}

func right(list ...int64) bool {
	return !slices.ContainsFunc(list, func(x int64) bool { return x < -top || x > top })
}

// of: bases of these amounts.
func of(cash, taxable, social int64) api.Bases {
	return api.Bases{Cash: cash, Taxable: taxable, Social: social}
}

// share: both sides.
func share(employee, employer int64) api.Share {
	return api.Share{Employee: employee, Employer: employer}
}

// pension: the document's example, and a tenth of the employer's.
func pension() api.Contrib {
	return api.Contrib{Name: "pension", Base: api.OnSocial, Bands: []api.Band{{Rate: 500, Employer: 1000}}, PeriodCeil: 1000, YearCeil: 2500, Round: api.HalfUp}
}

// banded: bands of a few coins: free, then rates that rise and fall, of one side or of both.
func banded() []api.Band {
	return []api.Band{{}, {From: 5, Rate: 2500, Employer: 100}, {From: 9, Employer: full}, {From: 10, Rate: full}, {From: 16, Rate: 1, Employer: 3333}}
}

// sample: a table that may be, whose contributions differ in all that they have.
func sample() api.Table {
	return api.Table{Limit: 5000, Round: api.Down, Schemes: [][]api.Band{{{Rate: 2000}}}, Kinds: []api.Kind{{Name: "salary", Cash: 1, Taxable: 1, Social: 1}}, Contribs: []api.Contrib{
		pension(),
		{Name: "care", Base: api.OnTaxable, Bands: banded(), Round: api.Up},
		{Name: "health", Base: api.OnSocial, Bands: banded(), YearCeil: 40, Round: api.Down},
		{Name: "jobs", Base: api.OnTaxable, Bands: []api.Band{{Employer: 3000}, {From: 7, Rate: 1500}}, PeriodCeil: 20, Round: api.HalfEven},
	}}
}

// only: a table that has these contributions.
func only(list ...api.Contrib) api.Table {
	t := sample()
	t.Contribs = list
	return t
}

func TestSample(t *testing.T) {
	if e := table.Check(sample()); e != api.OK {
		t.Fatal(e)
	}
}

// parts: what an amount must come to by bands, both sides, in big numbers.
func parts(x int64, bands []api.Band) (int64, int64) {
	sides := [2]*big.Int{new(big.Int), new(big.Int)}
	for i, b := range bands {
		upto := x
		if i+1 < len(bands) && bands[i+1].From < upto {
			upto = bands[i+1].From
		}
		if upto <= b.From {
			continue
		}
		for side, rate := range []int{b.Rate, b.Employer} {
			sides[side].Add(sides[side], new(big.Int).Mul(big.NewInt(upto-b.From), big.NewInt(int64(rate))))
		}
	}
	return sides[0].Int64(), sides[1].Int64()
}

// rounded: parts of nothing or more in least coins, as a way of rounding tells.
func rounded(x int64, mode int) int64 {
	whole, rest := x/full, x%full
	up := false
	switch mode {
	case api.Up:
		up = rest > 0
	case api.HalfUp:
		up = rest >= full/2
	case api.HalfEven:
		up = rest > full/2 || rest == full/2 && whole%2 == 1
	case api.HalfDown:
		up = rest > full/2
	}
	if up {
		whole++
	}
	return whole
}

// wrongBands: bands that may not be, and what is told of them.
func wrongBands() map[api.Errno][][]api.Band {
	return map[api.Errno][][]api.Band{
		api.ErrLong:  {nil, {}, make([]api.Band, 9)},
		api.ErrRange: {{{From: 1}}, {{From: -1}}, {{}, {From: top + 1}}},
		api.ErrOrder: {{{}, {}}, {{}, {From: 9}, {From: 8}}},
		api.ErrRate:  {{{Rate: -1}}, {{Employer: full + 1}}, {{}, {From: 5, Rate: full + 1}}},
	}
}

// P15.1: both sides of what counts, coin by coin, and at the greatest amounts.
func TestExact(t *testing.T) {
	amounts := []int64{-top, -top + 1, top - 1, top, top / 2, 123_456_789}
	for x := range int64(40) {
		amounts = append(amounts, x-10)
	}
	lists := [][]api.Band{{{}}, {{Rate: full, Employer: full}}, {{Rate: 500}, {From: top, Employer: 7}}, {{Employer: 700}, {From: top - 1, Rate: 3}}}
	for _, c := range sample().Contribs {
		lists = append(lists, c.Bands)
	}
	for _, bands := range lists {
		for _, x := range amounts {
			employee, employer := parts(x, bands)
			for _, c := range []api.Contrib{{Bands: bands}, {Base: api.OnTaxable, Bands: bands, PeriodCeil: 3, YearCeil: 2, Round: 77}} { // nothing else is looked at
				got, e := social.Exact(c, x)
				if got != pair.Pair(complex(float64(employee), float64(employer))) || e != api.OK {
					t.Errorf("Exact(%v, %d): %v, %v, not %d and %d", bands, x, got, e, employee, employer)
				}
			}
		}
	}
	sum := pair.Pair(0)
	for x := range int64(30) { // coin by coin
		b := banded()[0]
		for _, next := range banded() {
			if next.From <= x {
				b = next
			}
		}
		sum += pair.Pair(complex(float64(b.Rate), float64(b.Employer)))
		if got, e := social.Exact(api.Contrib{Bands: banded()}, x+1); got != sum || e != api.OK {
			t.Errorf("Exact of %d: %v, %v, not %v", x+1, got, e, sum)
		}
	}
}

// P15.1: bands that may not be are told ahead of an amount that may not be, and that ahead of a way of rounding that there isn't.
func TestExactRefuses(t *testing.T) {
	for _, x := range edges {
		for want, lists := range wrongBands() {
			for _, bands := range lists {
				for _, mode := range []int{api.HalfUp, 0, 7} {
					c := api.Contrib{Bands: bands, Round: mode}
					if got, e := social.Exact(c, x); got != 0 || e != want {
						t.Errorf("Exact(%v, %d): %v, %v, not %v", bands, x, got, e, want)
					}
					if got, e := social.Due(c, x); got != (api.Share{}) || e != want {
						t.Errorf("Due(%v, %d): %v, %v, not %v", bands, x, got, e, want)
					}
				}
			}
		}
		for _, mode := range []int{math.MinInt, -1, 0, 1, 2, 3, 4, 5, 6, 7, math.MaxInt} {
			c := api.Contrib{Bands: banded(), Round: mode}
			want, wantDue := api.OK, api.OK
			if mode < 1 || mode > 6 {
				wantDue = api.ErrRange
			}
			if !right(x) {
				want, wantDue = api.ErrOverflow, api.ErrOverflow
			}
			if got, e := social.Exact(c, x); e != want || e != api.OK && got != 0 {
				t.Errorf("Exact(%d): %v, %v, not %v", x, got, e, want)
			}
			if got, e := social.Due(c, x); e != wantDue || e != api.OK && got != (api.Share{}) {
				t.Errorf("Due(%d) by %d: %v, %v, not %v", x, mode, got, e, wantDue)
			}
		}
	}
}

// P15.1: each side rounded by itself, as the contribution tells.
func TestDue(t *testing.T) {
	bands := []api.Band{{Rate: 500, Employer: 1500}} // of 10: a half, and one and a half
	for _, c := range []struct {
		mode int
		x    int64
		want api.Share
	}{
		{api.Down, 10, share(0, 1)}, {api.Up, 10, share(1, 2)}, {api.Inward, 10, share(0, 1)}, {api.HalfUp, 10, share(1, 2)}, {api.HalfEven, 10, share(0, 2)}, {api.HalfDown, 10, share(0, 1)},
		{api.Down, 19, share(0, 2)}, {api.Up, 11, share(1, 2)}, {api.HalfDown, 11, share(1, 2)}, {api.HalfEven, 9, share(0, 1)}, {api.HalfUp, 9, share(0, 1)}, {api.Up, 1, share(1, 1)}, {api.Up, 0, share(0, 0)}, {api.Up, -10, share(0, 0)}, {api.Down, -10, share(0, 0)}, {api.HalfUp, top, share(top/20, top/20*3)},
	} {
		got, e := social.Due(api.Contrib{Bands: bands, Round: c.mode, PeriodCeil: 1, YearCeil: 1}, c.x) // what counts is told: no ceiling is looked at
		if got != c.want || e != api.OK {
			t.Errorf("Due of %d by %d: %v, %v, not %v", c.x, c.mode, got, e, c.want)
		}
	}
	for mode := api.Down; mode <= api.HalfDown; mode++ {
		for x := range int64(200) {
			employee, employer := parts(x-5, banded())
			want := share(rounded(employee, mode), rounded(employer, mode))
			if got, e := social.Due(api.Contrib{Bands: banded(), Round: mode}, x-5); got != want || e != api.OK {
				t.Errorf("Due of %d by %d: %v, %v, not %v", x-5, mode, got, e, want)
			}
		}
	}
}

// counts: how much of bases must count of a contribution.
func counts(c api.Contrib, b api.Bases, ahead int64) int64 {
	x := b.Social
	if c.Base == api.OnTaxable {
		x = b.Taxable
	}
	if c.PeriodCeil > 0 && x > c.PeriodCeil {
		x = c.PeriodCeil
	}
	if ahead < 0 {
		ahead = 0
	}
	if c.YearCeil > 0 && x > c.YearCeil-ahead {
		x = c.YearCeil - ahead
	}
	if x < 0 {
		return 0
	}
	return x
}

// paid: what Period must tell, of bases and amounts that may be.
func paid(t api.Table, b api.Bases, ahead []int64) (social.Row, []int64, api.Errno) {
	var row social.Row
	var behind []int64
	for i, c := range t.Contribs {
		x := counts(c, b, ahead[i])
		employee, employer := parts(x, c.Bands)
		row, behind = append(row, share(rounded(employee, c.Round), rounded(employer, c.Round))), append(behind, ahead[i]+x)
	}
	if !right(behind...) {
		return nil, nil, api.ErrOverflow
	}
	return row, behind, api.OK
}

// P15.2: of each its own base, ceilings, bands and rounding; and what counts behind it.
func TestPeriod(t *testing.T) {
	for _, c := range []struct {
		t      api.Table
		b      api.Bases
		ahead  []int64
		row    social.Row
		behind []int64
	}{
		{only(pension()), of(0, 0, 2000), []int64{0}, social.Row{share(50, 100)}, []int64{1000}},
		{only(pension()), of(0, 0, 2000), []int64{1000}, social.Row{share(50, 100)}, []int64{2000}},
		{only(pension()), of(0, 0, 2000), []int64{2000}, social.Row{share(25, 50)}, []int64{2500}}, // the document's example
		{only(pension()), of(0, 0, 2000), []int64{2500}, social.Row{share(0, 0)}, []int64{2500}},
		{only(pension()), of(0, 0, 2000), []int64{9999}, social.Row{share(0, 0)}, []int64{9999}},
		{only(pension()), of(9, 9, -2000), []int64{700}, social.Row{share(0, 0)}, []int64{700}},
		{only(pension()), of(9, 9, 2000), []int64{-400}, social.Row{share(50, 100)}, []int64{600}},
		{only(pension(), pension()), of(0, 0, 600), []int64{0, 2300}, social.Row{share(30, 60), share(10, 20)}, []int64{600, 2500}},
		{only(), of(1, 2, 3), nil, nil, nil}, {only(), of(top, -top, top), []int64{}, nil, nil},
		{sample(), of(-7, 12, 17), []int64{0, 0, 30, 0}, social.Row{share(1, 2), share(3, 2), share(1, 1), share(1, 2)}, []int64{17, 12, 40, 12}},
		{sample(), of(0, 100, 100), []int64{0, 5, 40, 5}, social.Row{share(5, 10), share(8, 30), share(0, 0), share(2, 2)}, []int64{100, 105, 40, 25}},
		{only(api.Contrib{Base: api.OnTaxable, Bands: []api.Band{{Rate: full, Employer: full}}, Round: api.Up}), of(0, top, 0), []int64{-top}, social.Row{share(top, top)}, []int64{0}},
		{only(api.Contrib{Base: api.OnTaxable, Bands: []api.Band{{Rate: full}}, Round: api.Up}), of(0, top-1, 0), []int64{1}, social.Row{share(top-1, 0)}, []int64{top}},
	} {
		row, behind, e := social.Period(c.t, c.b, c.ahead)
		if !slices.Equal(row, c.row) || !slices.Equal(behind, c.behind) || e != api.OK {
			t.Errorf("Period(%v, %v): %v, %v, %v, not %v, %v", c.b, c.ahead, row, behind, e, c.row, c.behind)
		}
	}
}

// P15.2: how many is told first, then what may not be, then what counts in all.
func TestPeriodRefuses(t *testing.T) {
	free := api.Contrib{Base: api.OnSocial, Bands: []api.Band{{}}, Round: api.Down}
	for _, c := range []struct {
		t     api.Table
		b     api.Bases
		ahead []int64
		want  api.Errno
	}{
		{only(pension()), of(1, 2, 3), nil, api.ErrMissing}, {only(pension()), of(1, 2, 3), []int64{1, 2}, api.ErrMissing}, {only(), of(1, 2, 3), []int64{1}, api.ErrMissing}, {sample(), of(1, 2, 3), []int64{1, 2, 3}, api.ErrMissing}, {only(pension()), of(top+1, 2, 3), []int64{}, api.ErrMissing}, {only(pension()), of(1, 2, 3), []int64{top + 1, 0}, api.ErrMissing}, {only(free), of(1, 2, top), []int64{top, top}, api.ErrMissing},
		{only(pension()), of(top+1, 2, 3), []int64{0}, api.ErrOverflow}, {only(pension()), of(1, top+1, 3), []int64{0}, api.ErrOverflow}, {only(pension()), of(1, 2, top+1), []int64{0}, api.ErrOverflow}, {only(pension()), of(1, 2, -top-1), []int64{0}, api.ErrOverflow}, {only(pension()), of(1, -top-1, 3), []int64{0}, api.ErrOverflow}, {only(), of(-top-1, 2, 3), nil, api.ErrOverflow}, {only(), of(1, math.MaxInt64, 3), nil, api.ErrOverflow},
		{only(pension()), of(1, 2, 3), []int64{top + 1}, api.ErrOverflow}, {only(pension()), of(1, 2, 3), []int64{-top - 1}, api.ErrOverflow}, {sample(), of(1, 2, 3), []int64{0, 0, 0, top + 1}, api.ErrOverflow}, {sample(), of(1, 2, 3), []int64{0, 0, math.MinInt64, 0}, api.ErrOverflow}, {only(free, free), of(0, 0, 0), []int64{math.MaxInt64, 0}, api.ErrOverflow},
		{only(free), of(0, 0, 1), []int64{top}, api.ErrOverflow}, {only(free), of(0, 0, top), []int64{1}, api.ErrOverflow}, {only(pension(), free), of(0, 0, top/2+1), []int64{0, top / 2}, api.ErrOverflow}, {only(free), of(0, 0, 0), []int64{top}, api.OK}, {only(free), of(9, 9, -top), []int64{top}, api.OK}, {only(free), of(0, 0, top), []int64{0}, api.OK}, {only(pension()), of(0, 0, top), []int64{top}, api.OK},
		{only(pension(), api.Contrib{Round: api.Down}), of(1, 2, 3), []int64{0, 0}, api.ErrLong}, {only(pension(), api.Contrib{Bands: []api.Band{{}}}), of(1, 2, 3), []int64{0, 0}, api.ErrRange}, {only(api.Contrib{Bands: []api.Band{{Rate: -1}}}, api.Contrib{Bands: []api.Band{{From: 1}}}), of(1, 2, 3), []int64{0, 0}, api.ErrRate}, {only(api.Contrib{Bands: []api.Band{{Rate: -1}}}), of(1, 2, 3), []int64{top + 1}, api.ErrOverflow}, // the first one's
	} {
		row, behind, e := social.Period(c.t, c.b, c.ahead)
		if e != c.want || e != api.OK && (len(row) != 0 || len(behind) != 0) {
			t.Errorf("Period(%v, %v, %v): %v, %v, %v, not %v", c.t.Contribs, c.b, c.ahead, row, behind, e, c.want)
		}
		if len(c.ahead) != 0 && !slices.ContainsFunc(c.ahead, func(x int64) bool { return x != 0 }) {
			if rows, e := social.Year(c.t, c.b); e != c.want || e != api.OK && len(rows) != 0 {
				t.Errorf("Year(%v, %v): %v, %v, not %v", c.t.Contribs, c.b, rows, e, c.want)
			}
			if row, e := social.ToDate(c.t, c.b); e != c.want || e != api.OK && len(row) != 0 {
				t.Errorf("ToDate(%v, %v): %v, %v, not %v", c.t.Contribs, c.b, row, e, c.want)
			}
		}
	}
}

// chance: a table that may be.
func chance(r *rand.Rand) api.Table {
	t := only()
	for i := range r.Intn(7) {
		c := api.Contrib{Name: "c" + string(rune('a'+i)), Base: 1 + r.Intn(2), PeriodCeil: r.Int63n(3) * r.Int63n(40), YearCeil: r.Int63n(3) * r.Int63n(120), Round: 1 + r.Intn(6)}
		for from := int64(0); len(c.Bands) < 8 && from < 60; from += 1 + r.Int63n(30) {
			c.Bands = append(c.Bands, api.Band{From: from, Rate: r.Intn(full + 1), Employer: r.Intn(full + 1)})
		}
		t.Contribs = append(t.Contribs, c)
	}
	return t
}

// together: rows put together, contribution by contribution.
func together(n int, rows ...social.Row) social.Row {
	all := make(social.Row, n)
	for _, row := range rows {
		for i, s := range row {
			all[i].Employee += s.Employee
			all[i].Employer += s.Employer
		}
	}
	return all
}

// same: are both lists of rows the same?
func same(a, b []social.Row) bool {
	return slices.EqualFunc(a, b, func(x, y social.Row) bool { return slices.Equal(x, y) })
}

// P15.2, P15.3: Period by whatever counted ahead, Year and ToDate, against another reckoning.
func TestMany(t *testing.T) {
	r := rand.New(rand.NewSource(15))
	for range 5000 {
		x := chance(r)
		if e := table.Check(x); e != api.OK {
			t.Fatalf("%v: %v", x, e)
		}
		ahead := make([]int64, len(x.Contribs))
		for i := range ahead {
			ahead[i] = r.Int63n(150) - 20
		}
		b := of(r.Int63n(140)-40, r.Int63n(140)-40, r.Int63n(140)-40)
		want, wantBehind, _ := paid(x, b, ahead)
		row, behind, e := social.Period(x, b, ahead)
		if !slices.Equal(row, want) || !slices.Equal(behind, wantBehind) || e != api.OK {
			t.Fatalf("Period(%v, %v, %v): %v, %v, %v, not %v, %v", x, b, ahead, row, behind, e, want, wantBehind)
		}
		list := make([]api.Bases, r.Intn(16))
		var rows []social.Row
		counted := make([]int64, len(x.Contribs))
		for i := range list {
			list[i] = of(r.Int63n(140)-40, r.Int63n(140)-40, r.Int63n(140)-40)
			row, counted, _ = paid(x, list[i], counted)
			rows = append(rows, row)
		}
		got, e := social.Year(x, list...)
		if !same(got, rows) || e != api.OK {
			t.Fatalf("Year(%v, %v): %v, %v, not %v", x, list, got, e, rows)
		}
		all, e := social.ToDate(x, list...)
		if !slices.Equal(all, together(len(x.Contribs), rows...)) || e != api.OK {
			t.Fatalf("ToDate(%v, %v): %v, %v, not of %v", x, list, all, e, rows)
		}
	}
}

// P15.2, P15.3: the document's example: 50, 50 and 25; then nothing, until the year is over.
func TestYear(t *testing.T) {
	b := of(0, 0, 2000)
	rows, e := social.Year(only(pension()), b, b, b, b)
	if !same(rows, []social.Row{{share(50, 100)}, {share(50, 100)}, {share(25, 50)}, {share(0, 0)}}) || e != api.OK {
		t.Errorf("Year: %v, %v", rows, e)
	}
	row, e := social.ToDate(only(pension()), b, b, b, b)
	if !slices.Equal(row, social.Row{share(125, 250)}) || e != api.OK {
		t.Errorf("ToDate: %v, %v", row, e)
	}
	// Each period is rounded by itself: three of 10 are 3, one of 30 is 2.
	if row, e := social.ToDate(only(pension()), of(0, 0, 10), of(0, 0, 10), of(0, 0, 10)); !slices.Equal(row, social.Row{share(3, 3)}) || e != api.OK {
		t.Errorf("ToDate: %v, %v", row, e)
	}
	if rows, e := social.Year(sample()); len(rows) != 0 || e != api.OK {
		t.Errorf("Year of nothing: %v, %v", rows, e)
	}
	if row, e := social.ToDate(sample()); !slices.Equal(row, make(social.Row, 4)) || e != api.OK {
		t.Errorf("ToDate of nothing: %v, %v", row, e)
	}
	if rows, e := social.Year(only(), b, b); len(rows) != 2 || len(rows[0]) != 0 || len(rows[1]) != 0 || e != api.OK {
		t.Errorf("Year without contributions: %v, %v", rows, e)
	}
	if row, e := social.ToDate(only(), b, b); len(row) != 0 || e != api.OK {
		t.Errorf("ToDate without contributions: %v, %v", row, e)
	}
}

// P15.2, P15.3: the first period's error, and what counts so far may be.
func TestYearRefuses(t *testing.T) {
	free := api.Contrib{Base: api.OnSocial, Bands: []api.Band{{Rate: full}}, Round: api.Up}
	half := free
	half.PeriodCeil = top / 2
	for _, c := range []struct {
		t    api.Table
		list []api.Bases
		want api.Errno
	}{
		{only(free), []api.Bases{of(0, 0, top), of(0, 0, 0), of(0, 0, -top)}, api.OK}, {only(free), []api.Bases{of(0, 0, top), of(0, 0, 1)}, api.ErrOverflow}, {only(free), []api.Bases{of(0, 0, top/2), of(0, 0, top/2+1)}, api.ErrOverflow}, {only(half), []api.Bases{of(0, 0, top), of(0, 0, top)}, api.OK}, {only(half), []api.Bases{of(0, 0, top), of(0, 0, top), of(0, 0, 1)}, api.ErrOverflow}, {only(pension()), slices.Repeat([]api.Bases{of(top, top, top)}, 500), api.OK},
		{only(pension()), []api.Bases{of(1, 1, 1), of(1, 1, 1), of(top+1, 1, 1)}, api.ErrOverflow}, {only(), []api.Bases{of(1, 1, 1), of(1, -top-1, 1)}, api.ErrOverflow}, {only(), []api.Bases{of(1, 1, math.MinInt64), of(1, 1, 1)}, api.ErrOverflow}, {only(pension(), free), []api.Bases{of(0, 0, top), of(0, 0, 1)}, api.ErrOverflow},
		{only(api.Contrib{Round: api.Down}), []api.Bases{of(top, top, top), of(top+1, 1, 1)}, api.ErrLong}, {only(api.Contrib{Round: api.Down}), []api.Bases{of(1, top+1, 1), of(1, 1, 1)}, api.ErrOverflow}, {only(api.Contrib{Round: api.Down}), nil, api.OK}, // the first period's
	} {
		rows, e := social.Year(c.t, c.list...)
		if e != c.want || e != api.OK && len(rows) != 0 || e == api.OK && len(rows) != len(c.list) {
			t.Errorf("Year(%v, %v): %v, %v, not %v", c.t.Contribs, c.list, rows, e, c.want)
		}
		row, e := social.ToDate(c.t, c.list...)
		if e != c.want || e != api.OK && len(row) != 0 || e == api.OK && !slices.Equal(row, together(len(c.t.Contribs), rows...)) {
			t.Errorf("ToDate(%v, %v): %v, %v, not %v", c.t.Contribs, c.list, row, e, c.want)
		}
	}
}

// P15.3: contribution by contribution, both sides.
func TestSum(t *testing.T) {
	wide := make(social.Row, most)
	for i := range wide {
		wide[i] = share(int64(i), int64(-i))
	}
	for _, c := range []struct {
		n    int
		list []social.Row
		want social.Row
	}{
		{0, nil, nil}, {0, []social.Row{nil, {}}, nil}, {1, nil, social.Row{{}}}, {3, nil, make(social.Row, 3)}, {most, nil, make(social.Row, most)},
		{1, []social.Row{{share(5, 7)}}, social.Row{share(5, 7)}}, {2, []social.Row{{share(5, 7), share(-1, 20)}, {share(-8, 1), share(300, 4000)}, {share(1, 0), share(0, 1)}}, social.Row{share(-2, 8), share(299, 4021)}},
		{2, []social.Row{{share(top, -top), share(0, 0)}, {share(-1, 1), share(top, top)}}, social.Row{share(top-1, 1-top), share(top, top)}}, {1, []social.Row{{share(top, 0)}, {share(-top, 0)}, {share(-top, 0)}}, social.Row{share(-top, 0)}},
		{most, []social.Row{wide, wide}, together(most, wide, wide)}, {1, slices.Repeat([]social.Row{{share(1, 2)}}, 300), social.Row{share(300, 600)}},
	} {
		if got, e := social.Sum(c.n, c.list...); !slices.Equal(got, c.want) || e != api.OK {
			t.Errorf("Sum(%d, %v): %v, %v, not %v", c.n, c.list, got, e, c.want)
		}
	}
}

// P15.3: how many there are is told first; then the first error, row by row: how many the row has, ahead of what is more than may be with it.
func TestSumRefuses(t *testing.T) {
	one, over := social.Row{share(1, 1)}, social.Row{share(top+1, 0)}
	for _, c := range []struct {
		n    int
		list []social.Row
		want api.Errno
	}{
		{-1, nil, api.ErrRange}, {most + 1, nil, api.ErrRange}, {math.MinInt, nil, api.ErrRange}, {math.MaxInt, nil, api.ErrRange}, {-1, []social.Row{one}, api.ErrRange}, {most + 1, []social.Row{make(social.Row, most+1)}, api.ErrRange}, {most + 1, []social.Row{over}, api.ErrRange}, {-1, []social.Row{over}, api.ErrRange},
		{0, []social.Row{one}, api.ErrMissing}, {1, []social.Row{nil}, api.ErrMissing}, {2, []social.Row{one}, api.ErrMissing}, {1, []social.Row{{share(1, 1), share(1, 1)}}, api.ErrMissing}, {1, []social.Row{one, one, {}}, api.ErrMissing}, {most, []social.Row{make(social.Row, most), make(social.Row, most-1)}, api.ErrMissing}, {2, []social.Row{over}, api.ErrMissing}, {0, []social.Row{over}, api.ErrMissing}, {1, []social.Row{{}, over}, api.ErrMissing}, {1, []social.Row{{share(top, 0)}, {share(1, 0), share(0, 0)}}, api.ErrMissing},
		{1, []social.Row{over}, api.ErrOverflow}, {1, []social.Row{{share(0, top+1)}}, api.ErrOverflow}, {1, []social.Row{{share(0, -top-1)}}, api.ErrOverflow}, {1, []social.Row{{share(-top-1, 0)}}, api.ErrOverflow}, {3, []social.Row{{{}, {}, share(0, math.MaxInt64)}}, api.ErrOverflow}, {1, []social.Row{{share(top, 0)}, one}, api.ErrOverflow}, {1, []social.Row{{share(0, -top)}, {share(0, -1)}, one}, api.ErrOverflow}, {2, []social.Row{{share(1, 1), share(0, top)}, {share(1, 1), share(0, 1)}, {share(1, 1), share(0, -1)}}, api.ErrOverflow}, {1, []social.Row{one, {share(math.MaxInt64, 0)}, {share(math.MinInt64, 0)}}, api.ErrOverflow}, {1, []social.Row{over, {}}, api.ErrOverflow}, {1, []social.Row{{share(top, 0)}, one, {}}, api.ErrOverflow},
	} {
		if got, e := social.Sum(c.n, c.list...); len(got) != 0 || e != c.want {
			t.Errorf("Sum(%d, %v): %v, %v, not %v", c.n, c.list, got, e, c.want)
		}
	}
}

// P15.4: the rates of the band in which the next coin counts, at the bands' edges, the ceilings', and the greatest bases.
func TestRates(t *testing.T) {
	bands := banded()
	for _, c := range []struct {
		c                  api.Contrib
		x, ahead           int64
		employee, employer int
	}{
		{api.Contrib{Bands: bands}, 0, 0, 0, 0}, {api.Contrib{Bands: bands}, 4, 0, 0, 0}, {api.Contrib{Bands: bands}, 5, 0, 2500, 100}, {api.Contrib{Bands: bands}, 8, 0, 2500, 100}, {api.Contrib{Bands: bands}, 9, 0, 0, full}, {api.Contrib{Bands: bands}, 10, 0, full, 0}, {api.Contrib{Bands: bands}, 15, 0, full, 0}, {api.Contrib{Bands: bands}, 16, 0, 1, 3333}, {api.Contrib{Bands: bands}, top - 1, 0, 1, 3333}, {api.Contrib{Bands: bands}, top, top, 1, 3333}, {api.Contrib{Bands: bands}, 10, top, full, 0},
		{pension(), 0, 0, 500, 1000}, {pension(), 999, 0, 500, 1000}, {pension(), 1000, 0, 0, 0}, {pension(), 5000, 0, 0, 0}, {pension(), -1, 0, 0, 0}, {pension(), -top, -top, 0, 0}, {pension(), top, 0, 0, 0},
		{pension(), 999, 1500, 500, 1000}, {pension(), 998, 1501, 500, 1000}, {pension(), 999, 1501, 0, 0}, {pension(), 0, 2499, 500, 1000}, {pension(), 1, 2499, 0, 0}, {pension(), 0, 2500, 0, 0}, {pension(), 0, top, 0, 0}, {pension(), 999, -top, 500, 1000}, {pension(), 1000, -top, 0, 0},
		{api.Contrib{Bands: bands, PeriodCeil: 9}, 8, 0, 2500, 100}, {api.Contrib{Bands: bands, PeriodCeil: 9}, 9, 0, 0, 0}, {api.Contrib{Bands: bands, PeriodCeil: 10}, 9, 0, 0, full}, {api.Contrib{Bands: bands, YearCeil: 20}, 9, 10, 0, full}, {api.Contrib{Bands: bands, YearCeil: 20}, 10, 10, 0, 0}, {api.Contrib{Bands: bands, YearCeil: 20}, 10, 9, full, 0}, {api.Contrib{Bands: bands, PeriodCeil: 12, YearCeil: 20}, 11, 0, full, 0}, {api.Contrib{Bands: bands, PeriodCeil: 12, YearCeil: 20}, 12, 0, 0, 0}, {api.Contrib{Bands: bands, PeriodCeil: -5, YearCeil: -5}, 12, 0, full, 0},
		{api.Contrib{Bands: []api.Band{{Rate: 7, Employer: 8}}}, top, 0, 7, 8}, {api.Contrib{Bands: []api.Band{{Rate: 7, Employer: 8}}}, -1, 0, 0, 0}, {api.Contrib{Bands: []api.Band{{Rate: 7, Employer: 8}}, PeriodCeil: top}, top - 1, 0, 7, 8}, {api.Contrib{Bands: []api.Band{{Rate: 7, Employer: 8}}, PeriodCeil: top}, top, 0, 0, 0}, {api.Contrib{Bands: []api.Band{{Rate: 7, Employer: 8}}, YearCeil: top}, top - 1, 1, 0, 0}, {api.Contrib{Bands: []api.Band{{Rate: 7}, {From: top, Rate: 9}}}, top - 1, 0, 7, 0},
	} {
		employee, employer, e := social.Rates(c.c, c.x, c.ahead)
		if employee != c.employee || employer != c.employer || e != api.OK {
			t.Errorf("Rates(%v, %d, %d): %d, %d, %v, not %d, %d", c.c, c.x, c.ahead, employee, employer, e, c.employee, c.employer)
		}
	}
}

// P15.4: bands that may not be are told ahead of amounts that may not be; those that may be have no other error.
func TestRatesRefuses(t *testing.T) {
	for _, x := range edges {
		for _, ahead := range edges {
			for want, lists := range wrongBands() {
				for _, bands := range lists {
					if employee, employer, e := social.Rates(api.Contrib{Bands: bands}, x, ahead); employee != 0 || employer != 0 || e != want {
						t.Errorf("Rates(%v, %d, %d): %d, %d, %v, not %v", bands, x, ahead, employee, employer, e, want)
					}
				}
			}
			want := api.OK
			if !right(x, ahead) {
				want = api.ErrOverflow
			}
			for _, c := range []api.Contrib{{Bands: []api.Band{{Rate: 7, Employer: 8}}}, {Bands: banded(), PeriodCeil: 1000}, {Bands: banded(), YearCeil: 1000, Round: 77, Base: -1}} {
				if employee, employer, e := social.Rates(c, x, ahead); e != want || e != api.OK && (employee != 0 || employer != 0) {
					t.Errorf("Rates(%v, %d, %d): %d, %d, %v, not %v", c, x, ahead, employee, employer, e, want)
				}
			}
		}
	}
}

// P15.4: 0, the bands' corners below the most that counts, and that.
func TestCorners(t *testing.T) {
	bands := banded()
	for _, c := range []struct {
		c     api.Contrib
		ahead int64
		want  []int64
	}{
		{api.Contrib{Bands: bands}, 0, []int64{0, 5, 9, 10, 16}}, {api.Contrib{Bands: bands}, top, []int64{0, 5, 9, 10, 16}}, {api.Contrib{Bands: bands[:1]}, 0, []int64{0}}, {pension(), 0, []int64{0, 1000}}, {pension(), 1500, []int64{0, 1000}}, {pension(), 1501, []int64{0, 999}}, {pension(), 2499, []int64{0, 1}}, {pension(), 2500, []int64{0}}, {pension(), top, []int64{0}}, {pension(), -top, []int64{0, 1000}},
		{api.Contrib{Bands: bands, PeriodCeil: 9}, 0, []int64{0, 5, 9}}, {api.Contrib{Bands: bands, PeriodCeil: 10}, 0, []int64{0, 5, 9, 10}}, {api.Contrib{Bands: bands, PeriodCeil: 8}, 0, []int64{0, 5, 8}}, {api.Contrib{Bands: bands, PeriodCeil: 17}, 0, []int64{0, 5, 9, 10, 16, 17}}, {api.Contrib{Bands: bands, PeriodCeil: 1}, 0, []int64{0, 1}}, {api.Contrib{Bands: bands, YearCeil: 20}, 8, []int64{0, 5, 9, 10, 12}}, {api.Contrib{Bands: bands, YearCeil: 20}, 11, []int64{0, 5, 9}}, {api.Contrib{Bands: bands, YearCeil: 20}, 20, []int64{0}}, {api.Contrib{Bands: bands, YearCeil: 20}, 21, []int64{0}}, {api.Contrib{Bands: bands, YearCeil: 20}, -1, []int64{0, 5, 9, 10, 16, 20}}, {api.Contrib{Bands: bands, PeriodCeil: 6, YearCeil: 20}, 8, []int64{0, 5, 6}},
		{api.Contrib{Bands: bands[:1], PeriodCeil: top}, 0, []int64{0}}, {api.Contrib{Bands: bands[:1], PeriodCeil: top - 1}, 0, []int64{0, top - 1}}, {api.Contrib{Bands: bands[:1], YearCeil: top}, 0, []int64{0}}, {api.Contrib{Bands: bands[:1], YearCeil: top}, 1, []int64{0, top - 1}}, {api.Contrib{Bands: []api.Band{{}, {From: top}}}, 0, []int64{0}}, {api.Contrib{Bands: []api.Band{{}, {From: top - 1}}}, 0, []int64{0, top - 1}}, {api.Contrib{Bands: []api.Band{{}, {From: top - 1}}, PeriodCeil: top - 1}, 0, []int64{0, top - 1}}, {api.Contrib{Bands: []api.Band{{Rate: 5}, {From: 3, Rate: 5}}}, 0, []int64{0, 3}},
	} {
		if got := social.Corners(c.c, c.ahead); !slices.Equal(got, c.want) {
			t.Errorf("Corners(%v, %d): %v, not %v", c.c, c.ahead, got, c.want)
		}
	}
}

// P15.4: rates are by how much Exact of what counts rises; and where there is no corner, they are those of the coin ahead.
func TestCornersRates(t *testing.T) {
	r := rand.New(rand.NewSource(154))
	for range 3000 {
		c := api.Contrib{Base: api.OnSocial, Bands: []api.Band{{Rate: r.Intn(full + 1), Employer: r.Intn(full + 1)}}, PeriodCeil: r.Int63n(2) * r.Int63n(25), YearCeil: r.Int63n(2) * r.Int63n(40), Round: api.Up}
		for from := 1 + r.Int63n(6); len(c.Bands) < 8 && from < 30; from += 1 + r.Int63n(6) {
			c.Bands = append(c.Bands, api.Band{From: from, Rate: r.Intn(full + 1), Employer: r.Intn(full + 1)})
		}
		ahead := r.Int63n(50) - 5
		corners := social.Corners(c, ahead)
		if !slices.IsSorted(corners) || len(slices.Compact(slices.Clone(corners))) != len(corners) || corners[0] != 0 {
			t.Fatalf("Corners(%v, %d): %v doesn't rise", c, ahead, corners)
		}
		for x := int64(-3); x < 50; x++ {
			here, _ := social.Exact(c, counts(c, of(0, 0, x), ahead))
			next, _ := social.Exact(c, counts(c, of(0, 0, x+1), ahead))
			employee, employer, e := social.Rates(c, x, ahead)
			if pair.Pair(complex(float64(employee), float64(employer))) != next-here || e != api.OK {
				t.Fatalf("Rates(%v, %d, %d): %d, %d, %v, not %v", c, x, ahead, employee, employer, e, next-here)
			}
			before, his, _ := social.Rates(c, x-1, ahead)
			if (before != employee || his != employer) && !slices.Contains(corners, x) {
				t.Fatalf("Corners(%v, %d): %v: without %d", c, ahead, corners, x)
			}
		}
	}
}

// P2: what is handed in stays as it is, its spare room too, and is shared with no answer; nor do answers share any.
func TestMemory(t *testing.T) {
	x, was := sample(), table.Clone(sample())
	ahead := []int64{10, 20, 30, 40, -77}
	list := []api.Bases{of(1, 20, 30), of(4, 50, 60), of(-77, -77, -77)}
	wasAhead, wasList := slices.Clone(ahead), slices.Clone(list)
	period := func() (social.Row, []int64) {
		row, behind, _ := social.Period(x, list[0], ahead[:4])
		return row, behind
	}
	year := func() []social.Row {
		rows, _ := social.Year(x, list[:2]...)
		return rows
	}
	row, behind := period()
	rows, corners := year(), social.Corners(x.Contribs[2], 5)
	all, _ := social.Sum(4, rows...)
	alone, _ := social.Sum(4, rows[0])
	toDate, _ := social.ToDate(x, list[:1]...)
	told := fmt.Sprint(row, behind, rows, corners, all, alone, toDate)
	spoilRow, spoilBehind := period()
	spoilRows, spoilCorners := year(), social.Corners(x.Contribs[2], 5)
	spoilAll, _ := social.Sum(4, rows...)
	spoilAlone, _ := social.Sum(4, rows[0])
	spoilToDate, _ := social.ToDate(x, list[:1]...)
	for _, spoil := range append(spoilRows[:2], spoilRow, spoilAll, spoilAlone, spoilToDate) {
		for i := range spoil[:cap(spoil)] {
			spoil[:cap(spoil)][i] = share(-77, -77)
		}
	}
	clear(spoilBehind[:cap(spoilBehind)])
	clear(spoilCorners[:cap(spoilCorners)])
	if again := fmt.Sprint(row, behind, rows, corners, all, alone, toDate); again != told {
		t.Errorf("another answer was changed: %s, not %s", again, told)
	}
	first := fmt.Sprint(rows[0])
	rows[1] = append(rows[1][:0], make(social.Row, cap(rows[1]))...)
	if fmt.Sprint(rows[0]) != first {
		t.Error("two rows of an answer share their memory")
	}
	if !table.Same(x, was) || !slices.Equal(ahead, wasAhead) || !slices.Equal(list, wasList) {
		t.Errorf("what is handed in was changed: %v, %v, %v", x, ahead, list)
	}
}

// wild: a table of any numbers.
func wild(r *rand.Rand) api.Table {
	amount := func() int64 { return edges[r.Intn(len(edges))] }
	numbers := []int{math.MinInt, -1, 0, 1, 2, 5, 6, 7, full, full + 1, math.MaxInt}
	number := func() int { return numbers[r.Intn(len(numbers))] }
	t := api.Table{}
	for range r.Intn(4) {
		c := api.Contrib{Base: number(), PeriodCeil: amount(), YearCeil: amount(), Round: number()}
		for i := range r.Intn(10) {
			b := api.Band{From: amount(), Rate: number(), Employer: number()}
			if r.Intn(4) > 0 {
				b = api.Band{From: int64(i), Rate: 5 * i, Employer: 7 * i}
			}
			c.Bands = append(c.Bands, b)
		}
		t.Contribs = append(t.Contribs, c)
	}
	return t
}

// P1, P2: no call panics, whatever it is given, tables that may not be, too; beside an error all is zero; the same calls answer the same.
func TestEnds(t *testing.T) {
	r := rand.New(rand.NewSource(151))
	amount := func() int64 { return edges[r.Intn(len(edges))] }
	bases := func() api.Bases { return of(amount(), amount(), amount()) }
	for range 20_000 {
		x, list, ahead, n := wild(r), []api.Bases{bases(), of(1, 2, 3), bases()}[r.Intn(4):], make([]int64, r.Intn(4)), []int{math.MinInt, -1, 0, 1, 2, most, most + 1, math.MaxInt}[r.Intn(8)]
		for i := range ahead {
			ahead[i] = amount()
		}
		rows := []social.Row{{share(amount(), amount()), share(amount(), 1)}, {share(1, amount())}, nil}[r.Intn(4):]
		c := api.Contrib{}
		if len(x.Contribs) > 0 {
			c = x.Contribs[0]
		}
		a, b, base := amount(), amount(), bases()
		told := func() string {
			defer func() {
				if why := recover(); why != nil {
					t.Errorf("%v, %v, %v, %v, %d, %d: %v", x, list, rows, ahead, a, b, why)
				}
			}()
			exact, e := social.Exact(c, a)
			due, f := social.Due(c, a)
			row, behind, g := social.Period(x, base, ahead)
			year, h := social.Year(x, list...)
			sum, i := social.Sum(n, rows...)
			toDate, j := social.ToDate(x, list...)
			employee, employer, k := social.Rates(c, a, b)
			if e != api.OK && exact != 0 || f != api.OK && due != (api.Share{}) || g != api.OK && len(row)+len(behind) != 0 || h != api.OK && len(year) != 0 || i != api.OK && len(sum) != 0 || j != api.OK && len(toDate) != 0 || k != api.OK && (employee != 0 || employer != 0) {
				t.Errorf("not zero beside an error: %v, %v, %v, %v, %d, %d", x, list, rows, ahead, a, b)
			}
			return fmt.Sprint(exact, e, due, f, row, behind, g, year, h, sum, i, toDate, j, employee, employer, k, social.Corners(c, a))
		}
		if told() != told() {
			t.Errorf("the same calls answer otherwise: %v, %v, %v, %v, %d, %d", x, list, rows, ahead, a, b)
		}
	}
}
