package base_test

import (
	"fmt"
	"math"
	"math/big"
	"math/rand"
	"slices"
	"testing"

	"stipend/api"
	"stipend/base"
	"stipend/element"
)

const top = 100_000_000_000 // as the document tells it

// edges: numbers at which something may go over.
var edges = []int64{math.MinInt64, math.MinInt64 + 1, -top * 2, -top - 1, -top, -top + 1, -top / 2, -2, -1, 0, 1, 2, top / 2, top/2 + 1, top - 1, top, top + 1, top * 2, math.MaxInt64 - 1, math.MaxInt64}

func right(list ...int64) bool {
	return !slices.ContainsFunc(list, func(x int64) bool { return x < -top || x > top })
}

// of: bases of these amounts.
func of(cash, taxable, social int64) api.Bases {
	return api.Bases{Cash: cash, Taxable: taxable, Social: social}
}

// sample: a table that may be: the document's kinds, and some more.
func sample() api.Table {
	return api.Table{Round: api.Down, Schemes: [][]api.Band{{{}}}, Kinds: []api.Kind{
		{Name: "salary", Cash: 1, Taxable: 1, Social: 1},
		{Name: "car", Taxable: 1},
		{Name: "saved", Cash: -1, Taxable: -1, Social: -1},
		{Name: "kept", Cash: -1, Taxable: 0, Social: 1},
		{Name: "nothing"},
	}}
}

// tells tells a test's fault, if a call answered otherwise.
func tells(t *testing.T, call string, got api.Bases, e api.Errno, want api.Bases, wantE api.Errno) {
	t.Helper()
	if got != want || e != wantE {
		t.Errorf("%s: %v, %v, not %v, %v", call, got, e, want, wantE)
	}
}

// P12.1: each base with its own sign, what is rounded one by one, and the document's example: what is saved is of cash and what is taxable alone there.
func TestOf(t *testing.T) {
	x := element.Of
	half := func(kind string, amount int64) api.Element {
		return api.Element{Kind: kind, Amount: amount, Units: 50}
	}
	for _, c := range []struct {
		list []api.Element
		want api.Bases
	}{
		{nil, api.Bases{}},
		{[]api.Element{x("salary", 1000), x("car", 300), x("saved", 200)}, of(800, 1100, 800)},
		{[]api.Element{x("salary", 1000)}, of(1000, 1000, 1000)}, {[]api.Element{x("car", 300)}, of(0, 300, 0)}, {[]api.Element{x("saved", 200)}, of(-200, -200, -200)}, {[]api.Element{x("kept", 50)}, of(-50, 0, 50)}, {[]api.Element{x("kept", -50)}, of(50, 0, -50)}, {[]api.Element{x("nothing", 70)}, api.Bases{}},
		{[]api.Element{half("salary", 1), half("salary", 1), half("saved", 3)}, api.Bases{}}, {[]api.Element{half("salary", -1), half("car", 3)}, of(-1, 1, -1)}, {[]api.Element{{Kind: "salary", Amount: 1250, Units: 3750}}, of(46_875, 46_875, 46_875)}, {[]api.Element{{Kind: "salary", Amount: 1250}}, api.Bases{}},
		{slices.Repeat([]api.Element{x("salary", 5)}, 32), of(160, 160, 160)},
		{[]api.Element{x("salary", top), x("saved", top), x("saved", top)}, of(-top, -top, -top)}, {[]api.Element{x("salary", top), x("nothing", top), x("nothing", top)}, of(top, top, top)}, {[]api.Element{x("kept", -top), x("car", top)}, of(top, top, -top)},
	} {
		got, e := base.Of(sample(), c.list...)
		tells(t, fmt.Sprintf("Of(%v)", c.list), got, e, c.want, api.OK)
	}
	saved := sample()
	saved.Kinds[2].Social = 0
	got, e := base.Of(saved, x("salary", 1000), x("car", 300), x("saved", 200))
	tells(t, "the document's example", got, e, of(800, 1100, 1000), api.OK)
}

// P12.1: CheckAll's error is ahead of the sums', which may not go over on their way.
func TestOfRefuses(t *testing.T) {
	x := element.Of
	for _, c := range []struct {
		list []api.Element
		want api.Errno
	}{
		{slices.Repeat([]api.Element{x("salary", 5)}, 33), api.ErrLong}, {slices.Repeat([]api.Element{x("none", 5)}, 33), api.ErrLong}, {slices.Repeat([]api.Element{x("salary", top)}, 33), api.ErrLong},
		{[]api.Element{x("none", 5)}, api.ErrKind}, {[]api.Element{x("salary", 5), x("none", top+1)}, api.ErrKind}, {[]api.Element{x("salary", top+1)}, api.ErrOverflow}, {[]api.Element{{Kind: "nothing", Amount: top, Units: 101}}, api.ErrOverflow}, {[]api.Element{{Kind: "nothing", Amount: 5, Units: -1}}, api.ErrRange},
		{[]api.Element{x("salary", top), x("salary", 1)}, api.ErrOverflow}, {[]api.Element{x("salary", top), x("salary", 1), x("saved", 1)}, api.ErrOverflow}, {[]api.Element{x("saved", top), x("saved", 1), x("salary", 2)}, api.ErrOverflow},
		{[]api.Element{x("car", top), x("car", 1)}, api.ErrOverflow}, {[]api.Element{x("car", -top), x("salary", -1)}, api.ErrOverflow}, {[]api.Element{x("kept", top), x("kept", 1)}, api.ErrOverflow},
		{[]api.Element{x("salary", top), x("car", -top), x("kept", 1)}, api.ErrOverflow}, {[]api.Element{x("saved", top), x("car", top), x("kept", 1)}, api.ErrOverflow}, // of one base alone
		{[]api.Element{x("salary", top), x("salary", 1), x("none", 5)}, api.ErrKind}, {[]api.Element{x("salary", top), x("salary", 1), {Kind: "car", Amount: 5, Units: -1}}, api.ErrRange}, // CheckAll is ahead
	} {
		got, e := base.Of(sample(), c.list...)
		tells(t, fmt.Sprintf("Of(%v)", c.list), got, e, api.Bases{}, c.want)
	}
}

// summed: what elements must come to, with a table that may be.
func summed(t api.Table, list []api.Element) (api.Bases, api.Errno) {
	if e := element.CheckAll(t, list...); e != api.OK {
		return api.Bases{}, e
	}
	b := api.Bases{}
	for _, x := range list {
		value, _ := element.Value(x)
		for _, k := range t.Kinds {
			if k.Name == x.Kind {
				b.Cash += int64(k.Cash) * value
				b.Taxable += int64(k.Taxable) * value
				b.Social += int64(k.Social) * value
			}
		}
		if !right(b.Cash, b.Taxable, b.Social) {
			return api.Bases{}, api.ErrOverflow
		}
	}
	return b, api.OK
}

// P12.1: kinds of all signs, and elements by chance.
func TestOfMany(t *testing.T) {
	r := rand.New(rand.NewSource(121))
	amounts := []int64{0, 1, -1, 3, 125, -777, 100_000, top / 3, -top / 3, top, -top, top + 1}
	told := map[api.Errno]int{}
	for range 20_000 {
		x := sample()
		for i := range x.Kinds {
			n := r.Intn(27)
			x.Kinds[i].Cash, x.Kinds[i].Taxable, x.Kinds[i].Social = n%3-1, n/3%3-1, n/9-1
		}
		list := make([]api.Element, r.Intn(12))
		for i := range list {
			list[i] = element.Of(x.Kinds[r.Intn(len(x.Kinds))].Name, amounts[r.Intn(len(amounts)-r.Intn(2))])
			switch r.Intn(30) {
			case 0, 1, 2:
				list[i].Units = r.Int63n(160)
			case 3:
				list[i].Kind = "none"
			}
		}
		want, wantE := summed(x, list)
		got, e := base.Of(x, list...)
		tells(t, fmt.Sprintf("Of(%v, %v)", x.Kinds, list), got, e, want, wantE)
		told[e]++
	}
	if len(told) != 3 {
		t.Errorf("not all was told: %v", told)
	}
}

// P12.2: each of the three.
func TestRight(t *testing.T) {
	for _, cash := range edges {
		for _, taxable := range edges {
			for _, social := range edges {
				if got := base.Right(of(cash, taxable, social)); got != right(cash, taxable, social) {
					t.Errorf("Right(%d, %d, %d): %v", cash, taxable, social, got)
				}
			}
		}
	}
}

// joined: what Add (of a sign of 1), or Sub (of -1), must tell.
func joined(a, b api.Bases, sign int64) (api.Bases, api.Errno) {
	put := func(x, y int64) (int64, bool) {
		z := new(big.Int).Add(big.NewInt(x), new(big.Int).Mul(big.NewInt(y), big.NewInt(sign)))
		return z.Int64(), right(x, y) && z.IsInt64() && right(z.Int64())
	}
	cash, inCash := put(a.Cash, b.Cash)
	taxable, inTaxable := put(a.Taxable, b.Taxable)
	social, inSocial := put(a.Social, b.Social)
	if !inCash || !inTaxable || !inSocial {
		return api.Bases{}, api.ErrOverflow
	}
	return of(cash, taxable, social), api.OK
}

// P12.2: Add and Sub, each with each, at the edges of each; More.
func TestAddSub(t *testing.T) {
	check := func(a, b api.Bases) {
		want, wantE := joined(a, b, 1)
		got, e := base.Add(a, b)
		tells(t, fmt.Sprintf("Add(%v, %v)", a, b), got, e, want, wantE)
		want, wantE = joined(a, b, -1)
		got, e = base.Sub(a, b)
		tells(t, fmt.Sprintf("Sub(%v, %v)", a, b), got, e, want, wantE)
	}
	check(of(1, 20, 300), of(4000, 50_000, 600_000))
	for _, x := range edges {
		for _, y := range edges {
			check(of(x, 2, 3), of(y, 50, 60))
			check(of(1, x, 3), of(40, y, 60))
			check(of(1, 2, x), of(40, 50, y))
			check(of(x, y, x), of(y, x, y))
			check(of(x, x, y), of(1, -1, 0))
		}
	}
	got, e := base.Add(of(1, 2, 3), of(10, 20, 30))
	tells(t, "Add", got, e, of(11, 22, 33), api.OK)
	got, e = base.Sub(of(1, 2, 3), of(10, 20, 30))
	tells(t, "Sub", got, e, of(-9, -18, -27), api.OK)
}

// P12.2: the same more in all three.
func TestMore(t *testing.T) {
	for _, x := range edges {
		for _, gross := range edges {
			for _, b := range []api.Bases{of(x, 20, 300), of(1, x, 300), of(1, 20, x), of(x, x, x)} {
				want, wantE := joined(b, of(gross, gross, gross), 1)
				got, e := base.More(b, gross)
				tells(t, fmt.Sprintf("More(%v, %d)", b, gross), got, e, want, wantE)
			}
		}
	}
	got, e := base.More(of(1, -20, 300), 7)
	tells(t, "More", got, e, of(8, -13, 307), api.OK)
}

// P12.2: one by one from none on: each sum on the way may be.
func TestYear(t *testing.T) {
	for _, c := range []struct {
		list []api.Bases
		want api.Bases
		e    api.Errno
	}{
		{nil, api.Bases{}, api.OK}, {[]api.Bases{of(1, 2, 3)}, of(1, 2, 3), api.OK}, {[]api.Bases{of(1, 2, 3), of(40, 50, 60), of(-700, -800, -900)}, of(-659, -748, -837), api.OK}, {slices.Repeat([]api.Bases{of(1, -1, 2)}, 500), of(500, -500, 1000), api.OK},
		{[]api.Bases{of(top, -top, 0), of(-top, top, 0), of(top, -top, 1)}, of(top, -top, 1), api.OK},
		{[]api.Bases{of(top, 0, 0), of(1, 0, 0), of(-1, 0, 0)}, api.Bases{}, api.ErrOverflow}, {[]api.Bases{of(0, -top, 0), of(0, -1, 0), of(0, 1, 0)}, api.Bases{}, api.ErrOverflow}, {[]api.Bases{of(1, 2, top), of(0, 0, top), of(0, 0, -top)}, api.Bases{}, api.ErrOverflow},
		{[]api.Bases{of(top+1, 0, 0)}, api.Bases{}, api.ErrOverflow}, {[]api.Bases{of(0, top+1, 0), of(0, -5, 0)}, api.Bases{}, api.ErrOverflow}, {[]api.Bases{of(-5, -5, -5), of(0, 0, top+1)}, api.Bases{}, api.ErrOverflow}, {[]api.Bases{of(math.MinInt64, 0, 0), of(math.MinInt64, 0, 0)}, api.Bases{}, api.ErrOverflow},
	} {
		got, e := base.Year(c.list...)
		tells(t, fmt.Sprintf("Year(%v)", c.list), got, e, c.want, c.e)
	}
}

// P12.3: what is taxable, or else what is social; never below 0.
func TestOn(t *testing.T) {
	for _, c := range []struct {
		base int
		b    api.Bases
		want int64
	}{
		{api.OnTaxable, of(1, 20, 300), 20}, {api.OnSocial, of(1, 20, 300), 300}, {api.OnTaxable, of(1, 0, 300), 0}, {api.OnSocial, of(1, 20, 0), 0}, {api.OnTaxable, of(1, -20, 300), 0}, {api.OnSocial, of(1, 20, -300), 0}, {api.OnTaxable, of(-1, 20, -300), 20}, {api.OnSocial, of(-1, -20, 300), 300},
		{api.OnTaxable, of(0, top, 5), top}, {api.OnSocial, of(0, 5, top), top}, {api.OnTaxable, of(0, -top, 5), 0}, {api.OnSocial, of(0, 5, -1), 0}, {api.OnTaxable, of(0, 1, 0), 1},
		{0, of(1, 20, 300), 300}, {3, of(1, 20, 300), 300}, {-1, of(1, 20, 300), 300}, {math.MaxInt, of(1, 20, -300), 0}, // else, whatever it is
	} {
		if got := base.On(api.Contrib{Base: c.base}, c.b); got != c.want {
			t.Errorf("On(%d, %v): %d, not %d", c.base, c.b, got, c.want)
		}
	}
}

// under: what Under must tell, step by step.
func under(c api.Contrib, x, ahead int64) int64 {
	if x < 0 {
		x = 0
	}
	if c.PeriodCeil > 0 && x > c.PeriodCeil {
		x = c.PeriodCeil
	}
	if c.YearCeil > 0 {
		left := c.YearCeil
		if ahead > 0 {
			left -= ahead
		}
		if left < 0 {
			left = 0
		}
		if x > left {
			x = left
		}
	}
	return x
}

// ceilings: a contribution with these ones.
func ceilings(period, year int64) api.Contrib {
	return api.Contrib{Base: api.OnSocial, PeriodCeil: period, YearCeil: year}
}

// P12.3: each ceiling alone and both, at their edges.
func TestUnder(t *testing.T) {
	for _, c := range []struct{ period, year, x, ahead, want int64 }{
		{0, 0, 2000, 9000, 2000}, {0, 0, -5, 0, 0}, {0, 0, top, top, top}, {0, 0, 0, 0, 0},
		{1000, 0, 2000, 9000, 1000}, {1000, 0, 1001, 0, 1000}, {1000, 0, 1000, 0, 1000}, {1000, 0, 999, 0, 999}, {1000, 0, -1, 0, 0}, {1, 0, 5, 0, 1},
		{0, 2500, 2000, 0, 2000}, {0, 2500, 2500, 0, 2500}, {0, 2500, 2501, 0, 2500}, {0, 2500, 2000, 500, 2000}, {0, 2500, 2000, 501, 1999}, {0, 2500, 2000, 2499, 1}, {0, 2500, 2000, 2500, 0}, {0, 2500, 2000, 2501, 0}, {0, 2500, 2000, top, 0}, {0, 2500, -5, 0, 0}, {0, 2500, -5, 3000, 0},
		{0, 2500, 5000, -1, 2500}, {0, 2500, 5000, -top, 2500}, {0, 2500, 2500, -1, 2500}, // ahead counts as 0
		{1000, 2500, 2000, 0, 1000}, {1000, 2500, 2000, 1000, 1000}, {1000, 2500, 2000, 1500, 1000}, {1000, 2500, 2000, 1501, 999}, {1000, 2500, 2000, 2000, 500}, {1000, 2500, 300, 2000, 300}, {1000, 2500, 2000, 2500, 0}, {1000, 500, 2000, 0, 500}, {1000, 500, 2000, -7, 500},
		{-5, 0, 2000, 0, 2000}, {0, -5, 2000, 100, 2000}, {-1, -1, 2000, 9000, 2000}, {-1000, 500, 2000, 100, 400}, {top, top, top, 0, top}, {top, top, top, 1, top - 1}, // only ceilings above 0 are any
	} {
		if got := base.Under(ceilings(c.period, c.year), c.x, c.ahead); got != c.want {
			t.Errorf("Under(%d, %d; %d, %d): %d, not %d", c.period, c.year, c.x, c.ahead, got, c.want)
		}
	}
	for i := range int64(13 * 13 * 13 * 13) {
		c, x, ahead := ceilings(i%13-2, i/13%13-2), i/169%13-2, i/2197-2
		if got, want := base.Under(c, x, ahead), under(c, x, ahead); got != want {
			t.Errorf("Under(%d, %d; %d, %d): %d, not %d", c.PeriodCeil, c.YearCeil, x, ahead, got, want)
		}
	}
}

// P12.3: period by period, by what counted ahead.
func TestCounted(t *testing.T) {
	social := func(list ...int64) []api.Bases {
		var all []api.Bases
		for _, x := range list {
			all = append(all, of(-7, 77, x))
		}
		return all
	}
	for _, c := range []struct {
		c    api.Contrib
		list []api.Bases
		want []int64
		e    api.Errno
	}{
		{ceilings(1000, 2500), social(2000, 2000, 2000, 2000), []int64{1000, 1000, 500, 0}, api.OK}, {ceilings(1000, 2500), nil, nil, api.OK}, {ceilings(1000, 2500), social(2000), []int64{1000}, api.OK},
		{ceilings(0, 2500), social(2000, -3000, 400, 400, 5), []int64{2000, 0, 400, 100, 0}, api.OK}, {ceilings(1000, 0), social(1001, 999, -1, 5000), []int64{1000, 999, 0, 1000}, api.OK}, {ceilings(0, 0), social(5, 0, -5, 7), []int64{5, 0, 0, 7}, api.OK},
		{api.Contrib{Base: api.OnTaxable, YearCeil: 100}, social(9, -9, 9), []int64{77, 23, 0}, api.OK}, {api.Contrib{Base: api.OnTaxable}, []api.Bases{of(1, -20, 300), of(1, 20, 300)}, []int64{0, 20}, api.OK},
		{ceilings(0, 0), social(top, 0, -top), []int64{top, 0, 0}, api.OK}, {ceilings(0, 0), social(top/2, top/2), []int64{top / 2, top / 2}, api.OK}, {ceilings(0, 0), social(top, 1), nil, api.ErrOverflow}, {ceilings(0, 0), social(top/2, top/2+1, -5), nil, api.ErrOverflow}, {ceilings(0, 0), social(top, top), nil, api.ErrOverflow},
		{ceilings(0, top), social(top, top, top), []int64{top, 0, 0}, api.OK}, {ceilings(top/2, 0), social(top, top), []int64{top / 2, top / 2}, api.OK}, {ceilings(top/2, 0), social(top, top, 1), nil, api.ErrOverflow}, {ceilings(1, 0), social(top, -top, top), []int64{1, 0, 1}, api.OK},
		{ceilings(1, 1), []api.Bases{of(0, 0, top+1)}, nil, api.ErrOverflow}, {ceilings(1, 1), []api.Bases{of(0, 0, -top-1)}, nil, api.ErrOverflow}, {ceilings(1, 1), []api.Bases{of(0, top+1, 0)}, nil, api.ErrOverflow}, {ceilings(1, 1), []api.Bases{of(-top-1, 0, 0)}, nil, api.ErrOverflow}, // any of them
		{ceilings(1, 1), []api.Bases{of(1, 1, 1), of(1, 1, 1), of(top+1, 1, 1)}, nil, api.ErrOverflow}, {ceilings(0, 0), []api.Bases{of(0, 0, math.MaxInt64), of(0, 0, math.MaxInt64)}, nil, api.ErrOverflow},
	} {
		if got, e := base.Counted(c.c, c.list...); !slices.Equal(got, c.want) || e != c.e {
			t.Errorf("Counted(%v, %v): %v, %v, not %v, %v", c.c, c.list, got, e, c.want, c.e)
		}
	}
}

// P12.3: against another reckoning; together never more than the year's ceiling.
func TestCountedMany(t *testing.T) {
	r := rand.New(rand.NewSource(123))
	for range 5000 {
		c := api.Contrib{Base: 1 + r.Intn(2), PeriodCeil: r.Int63n(12), YearCeil: r.Int63n(60)}
		list := make([]api.Bases, r.Intn(30))
		var want []int64
		all := int64(0)
		for i := range list {
			list[i] = of(r.Int63n(40)-20, r.Int63n(40)-20, r.Int63n(40)-20)
			x := list[i].Social
			if c.Base == 1 {
				x = list[i].Taxable
			}
			want = append(want, under(c, x, all))
			all += want[i]
		}
		got, e := base.Counted(c, list...)
		if !slices.Equal(got, want) || e != api.OK || c.YearCeil > 0 && all > c.YearCeil {
			t.Fatalf("Counted(%v, %v): %v, %v, not %v", c, list, got, e, want)
		}
	}
}

// P2: what is handed in stays as it is, its spare room too, and is shared with no answer.
func TestMemory(t *testing.T) {
	room := []api.Bases{of(1, 2, 3), of(4, 5, 6), of(7, 8, 9), of(77, 77, 77)}
	elements := []api.Element{element.Of("salary", 5), element.Of("car", 6), element.Of("spare", 7)}
	x := sample()
	x.Kinds = append(x.Kinds, api.Kind{Name: "spare"})[:5]
	was, had, kinds := slices.Clone(room), slices.Clone(elements), slices.Clone(x.Kinds[:6])
	list := room[:3]
	got, _ := base.Counted(ceilings(5, 8), list...)
	again, _ := base.Counted(ceilings(5, 8), list...)
	for i := range again[:cap(again)] {
		again[:cap(again)][i] = -5
	}
	base.Year(list...)
	base.Of(x, elements[:2]...)
	if !slices.Equal(got, []int64{3, 5, 0}) {
		t.Errorf("another answer was changed: %v", got)
	}
	if !slices.Equal(room, was) || !slices.Equal(elements, had) || !slices.Equal(x.Kinds[:6], kinds) {
		t.Errorf("what is handed in was changed: %v, %v, %v", room, elements, x.Kinds[:6])
	}
}

// P1, P2: no call panics, whatever it is given, tables that may not be, too; beside an error all is zero; the same calls answer the same.
func TestEnds(t *testing.T) {
	r := rand.New(rand.NewSource(12))
	amount := func() int64 { return edges[r.Intn(len(edges))] }
	numbers := []int{math.MinInt, -2, -1, 0, 1, 2, math.MaxInt}
	number := func() int { return numbers[r.Intn(len(numbers))] }
	names := []string{"salary", "car", "", "\xff", "none"}
	for range 5000 {
		x := api.Table{Limit: number(), Round: number()}
		for range r.Intn(4) {
			x.Kinds = append(x.Kinds, api.Kind{Name: names[r.Intn(4)], Cash: number(), Taxable: number(), Social: number()})
		}
		elements := make([]api.Element, r.Intn(5)*r.Intn(10))
		for i := range elements {
			elements[i] = api.Element{Kind: names[r.Intn(len(names))], Amount: amount(), Units: []int64{100, amount(), 100_000}[r.Intn(3)]}
		}
		list := []api.Bases{of(amount(), amount(), amount()), of(amount(), amount(), amount()), of(amount(), amount(), amount())}
		c := api.Contrib{Base: number(), PeriodCeil: amount(), YearCeil: amount()}
		gross, ahead := amount(), amount()
		told := func() string {
			defer func() {
				if why := recover(); why != nil {
					t.Errorf("%v, %v, %v, %v: %v", x, elements, list, c, why)
				}
			}()
			text := ""
			tell := func(b api.Bases, e api.Errno) {
				if e != api.OK && b != (api.Bases{}) {
					t.Errorf("%v beside %v", b, e)
				}
				text += fmt.Sprint(b, e)
			}
			tell(base.Of(x, elements...))
			tell(base.Add(list[0], list[1]))
			tell(base.Sub(list[0], list[1]))
			tell(base.More(list[0], gross))
			tell(base.Year(list...))
			counted, e := base.Counted(c, list...)
			if e != api.OK && len(counted) != 0 {
				t.Errorf("%v beside %v", counted, e)
			}
			return text + fmt.Sprint(counted, e, base.Right(list[0]), base.On(c, list[0]), base.Under(c, gross, ahead))
		}
		if told() != told() {
			t.Errorf("the same calls answer otherwise: %v, %v, %v, %v", x, elements, list, c)
		}
	}
}
