package keep_test

import (
	"fmt"
	"math"
	"math/rand"
	"reflect"
	"slices"
	"strconv"
	"strings"
	"testing"

	"stipend/api"
	"stipend/keep"
	"stipend/table"
)

// The document's limits.
const (
	maxKeepDen    = 20
	maxComponents = 7
	maxPieces     = 128
	mostBands     = 8
	full          = 10_000
)

func TestLimits(t *testing.T) {
	if keep.MaxKeepDen != maxKeepDen || keep.MaxComponents != maxComponents || keep.MaxPieces != maxPieces {
		t.Error("the limits aren't the document's")
	}
}

// bands: bands of these rates of the employee's, a coin apart; the employer's are all that there is.
func bands(rates ...int) []api.Band {
	list := make([]api.Band, len(rates))
	for i, rate := range rates {
		list[i] = api.Band{From: int64(i) * 100, Rate: rate, Employer: full}
	}
	return list
}

// scheme: likewise, without the employer's.
func scheme(rates ...int) []api.Band {
	list := bands(rates...)
	for i := range list {
		list[i].Employer = 0
	}
	return list
}

// of: a table with this limit, these schemes, and contributions of these rates, called a, b and so on.
func of(limit int, schemes [][]api.Band, contribs ...[]int) api.Table {
	t := api.Table{Limit: limit, Round: api.Up, Schemes: schemes, Kinds: []api.Kind{{Name: "pay", Cash: 1}}}
	for i, rates := range contribs {
		t.Contribs = append(t.Contribs, api.Contrib{Name: string(rune('a' + i)), Base: api.OnSocial, Round: api.Down, Bands: bands(rates...), YearCeil: 5})
	}
	return t
}

// schemes: schemes of these rates.
func schemes(list ...[]int) [][]api.Band {
	var all [][]api.Band
	for _, rates := range list {
		all = append(all, scheme(rates...))
	}
	return all
}

// cases: tables that may be, the worst choice of each, and what it is as lines.
var cases = []struct {
	name  string
	t     api.Table
	worst keep.Choice
	lines string
}{
	{"two fifths and a tenth", of(0, schemes([]int{0, 2000, 4000}), []int{1000}), keep.Choice{Scheme: 0, Band: 2, Contribs: []int{0}, Kept: 5000}, "scheme 0 band 2 4000|a band 0 1000|keep 5000"},
	{"a limit of 8500", of(8500, schemes([]int{0, 2000, 4000}), []int{1000}), keep.Choice{Scheme: -1, Band: -1, Contribs: []int{0}, Kept: 500}, "limit 8500|a band 0 1000|keep 500"},
	{"a limit of 8501", of(8501, schemes([]int{0, 2000, 4000}), []int{1000}), keep.Choice{Scheme: -1, Band: -1, Contribs: []int{0}, Kept: 499}, "limit 8501|a band 0 1000|keep 499"},
	{"nothing is taken", of(0, schemes([]int{0})), keep.Choice{Scheme: -1, Band: -1, Kept: full}, "limit 0|keep 10000"},
	{"a rate that is the limit", of(4000, schemes([]int{4000}, []int{3999})), keep.Choice{Scheme: -1, Band: -1, Kept: 6000}, "limit 4000|keep 6000"},
	{"a rate above the limit", of(4000, schemes([]int{4000}, []int{0, 4001})), keep.Choice{Scheme: 1, Band: 1, Kept: 5999}, "scheme 1 band 1 4001|keep 5999"},
	{"the greatest rate in the middle", of(10, schemes([]int{1, 20}, []int{19, 30, 18}, []int{29})), keep.Choice{Scheme: 1, Band: 1, Kept: 9970}, "scheme 1 band 1 30|keep 9970"},
	{"the greatest rate twice", of(0, schemes([]int{0, 7, 7}, []int{7})), keep.Choice{Scheme: 0, Band: 1, Kept: 9993}, "scheme 0 band 1 7|keep 9993"},
	{"the greatest rate in two schemes", of(0, schemes([]int{0}, []int{1, 7, 2}, []int{7})), keep.Choice{Scheme: 1, Band: 1, Kept: 9993}, "scheme 1 band 1 7|keep 9993"},
	{"contributions of many bands", of(100, schemes([]int{0}), []int{0, 5, 3}, []int{5, 5}, []int{0}, []int{1, 2, 2, 3}), keep.Choice{Scheme: -1, Band: -1, Contribs: []int{1, 0, 0, 3}, Kept: full - 113}, "limit 100|a band 1 5|b band 0 5|c band 0 0|d band 3 3|keep 9887"},
	{"more than all is taken", of(full, schemes([]int{0}), []int{full}, []int{0, full}), keep.Choice{Scheme: -1, Band: -1, Contribs: []int{0, 1}, Kept: -2 * full}, "limit 10000|a band 0 10000|b band 1 10000|keep -20000"},
	{"all that may be", of(full, slices.Repeat([][]api.Band{scheme(slices.Repeat([]int{full}, mostBands)...)}, 8), slices.Repeat([][]int{slices.Repeat([]int{full}, mostBands)}, 6)...), keep.Choice{Scheme: -1, Band: -1, Contribs: make([]int, 6), Kept: -6 * full}, "limit 10000|a band 0 10000|b band 0 10000|c band 0 10000|d band 0 10000|e band 0 10000|f band 0 10000|keep -60000"},
}

// P10.1, P10.2, P10.4: the worst choice, whether the table is accepted, what room there is, and the lines.
func TestCases(t *testing.T) {
	for _, c := range cases {
		if got, e := keep.Worst(c.t); !same(got, c.worst) || e != api.OK {
			t.Errorf("Worst of %s: %v, %v, not %v", c.name, got, e, c.worst)
		}
		want := api.OK
		if c.worst.Kept < 500 {
			want = api.ErrKeep
		}
		if e := keep.Check(c.t); e != want {
			t.Errorf("Check of %s: %v, not %v", c.name, e, want)
		}
		if got, e := keep.Room(c.t); got != c.worst.Kept-500 || e != api.OK {
			t.Errorf("Room of %s: %d, %v", c.name, got, e)
		}
		if got := strings.Join(keep.Lines(c.t), "|"); got != c.lines {
			t.Errorf("Lines of %s: %s, not %s", c.name, got, c.lines)
		}
	}
}

// same: are two choices the same?
func same(a, b keep.Choice) bool {
	return a.Scheme == b.Scheme && a.Band == b.Band && a.Kept == b.Kept && slices.Equal(a.Contribs, b.Contribs)
}

// wrong: tables that may not be, and why: each call tells it.
func wrong() map[string]api.Table {
	list := map[string]api.Table{
		"the zero table": {},
		"a limit":        of(full+1, schemes([]int{0})),
		"no scheme":      of(0, nil),
		"no bands":       of(0, [][]api.Band{nil}),
		"a rate":         of(0, schemes([]int{full + 1})),
		"an employer":    of(0, [][]api.Band{bands(5)}),
		"a contribution": of(0, schemes([]int{0}), []int{-1}),
		"nothing of it":  of(0, schemes([]int{0}), nil),
		"too many":       of(0, schemes([]int{0}), slices.Repeat([][]int{{0}}, 7)...),
	}
	x := of(0, schemes([]int{0}), []int{0}, []int{0})
	x.Contribs[1].Name = "a"
	list["two of a name"] = x
	x = of(0, schemes([]int{0}))
	x.Kinds = nil
	list["no kind"] = x
	return list
}

// P10.1, P10.2, P10.4: tables that may not be.
func TestWrong(t *testing.T) {
	for name, x := range wrong() {
		want := table.Check(x)
		if want == api.OK {
			t.Fatalf("%s: it may be", name)
		}
		if got, e := keep.Worst(x); !reflect.DeepEqual(got, keep.Choice{}) || e != want {
			t.Errorf("Worst of %s: %v, %v, not %v", name, got, e, want)
		}
		if e := keep.Check(x); e != want {
			t.Errorf("Check of %s: %v, not %v", name, e, want)
		}
		for _, c := range []keep.Choice{{Scheme: -1, Band: -1}, {}, {Scheme: 99}, {Scheme: math.MinInt, Band: math.MaxInt, Contribs: []int{1, 2, 3}}} {
			if got, e := keep.Kept(x, c); got != 0 || e != want {
				t.Errorf("Kept of %s, %v: %d, %v, not %v", name, c, got, e, want)
			}
		}
		if got, e := keep.Room(x); got != 0 || e != want {
			t.Errorf("Room of %s: %d, %v, not %v", name, got, e, want)
		}
		if got, ok := keep.Cut(x); !reflect.DeepEqual(got, api.Table{}) || ok {
			t.Errorf("Cut of %s: %v, %v", name, got, ok)
		}
		if got := keep.Lines(x); len(got) != 0 {
			t.Errorf("Lines of %s: %q", name, got)
		}
	}
}

// P10.1: what is kept by a choice, and choices that there aren't, the first fault first.
func TestKept(t *testing.T) {
	x := of(6000, schemes([]int{0, 2000, 4000}, []int{1000}), []int{500, 100}, []int{30})
	for _, c := range []struct {
		c    keep.Choice
		want int
		e    api.Errno
	}{
		{keep.Choice{Scheme: -1, Band: -1, Contribs: []int{0, 0}}, 3470, api.OK}, {keep.Choice{Scheme: -1, Band: -1, Contribs: []int{1, 0}}, 3870, api.OK},
		{keep.Choice{Contribs: []int{0, 0}}, 9470, api.OK}, {keep.Choice{Band: 1, Contribs: []int{0, 0}}, 7470, api.OK}, {keep.Choice{Band: 2, Contribs: []int{1, 0}, Kept: 77}, 5870, api.OK}, {keep.Choice{Scheme: 1, Contribs: []int{1, 0}}, 8870, api.OK},
		{keep.Choice{Scheme: 2, Contribs: []int{0, 0}}, 0, api.ErrScheme}, {keep.Choice{Scheme: -1, Contribs: []int{0, 0}}, 0, api.ErrScheme}, {keep.Choice{Scheme: -2, Band: -1, Contribs: []int{0, 0}}, 0, api.ErrScheme}, {keep.Choice{Scheme: -1, Band: -2, Contribs: []int{0, 0}}, 0, api.ErrScheme}, {keep.Choice{Scheme: -2, Band: -2, Contribs: []int{0, 0}}, 0, api.ErrScheme},
		{keep.Choice{Scheme: math.MaxInt}, 0, api.ErrScheme}, {keep.Choice{Scheme: math.MinInt, Band: 9}, 0, api.ErrScheme}, {keep.Choice{Scheme: 2, Band: -1, Contribs: []int{9}}, 0, api.ErrScheme},
		{keep.Choice{Band: 3, Contribs: []int{0, 0}}, 0, api.ErrMissing}, {keep.Choice{Band: -1, Contribs: []int{0, 0}}, 0, api.ErrMissing}, {keep.Choice{Scheme: 1, Band: 1, Contribs: []int{0, 0}}, 0, api.ErrMissing}, {keep.Choice{Band: math.MaxInt, Contribs: []int{0, 0}}, 0, api.ErrMissing}, {keep.Choice{Band: math.MinInt, Contribs: []int{0, 0}}, 0, api.ErrMissing},
		{keep.Choice{}, 0, api.ErrMissing}, {keep.Choice{Contribs: []int{0}}, 0, api.ErrMissing}, {keep.Choice{Contribs: []int{0, 0, 0}}, 0, api.ErrMissing}, {keep.Choice{Scheme: -1, Band: -1}, 0, api.ErrMissing}, {keep.Choice{Scheme: -1, Band: -1, Contribs: []int{0, 1}}, 0, api.ErrMissing},
		{keep.Choice{Contribs: []int{2, 0}}, 0, api.ErrMissing}, {keep.Choice{Contribs: []int{-1, 0}}, 0, api.ErrMissing}, {keep.Choice{Contribs: []int{0, 1}}, 0, api.ErrMissing}, {keep.Choice{Contribs: []int{0, -1}}, 0, api.ErrMissing}, {keep.Choice{Contribs: []int{0, math.MinInt}}, 0, api.ErrMissing}, {keep.Choice{Contribs: []int{math.MaxInt, 0}}, 0, api.ErrMissing},
	} {
		if got, e := keep.Kept(x, c.c); got != c.want || e != c.e {
			t.Errorf("Kept(%v): %d, %v, not %d, %v", c.c, got, e, c.want, c.e)
		}
	}
	none := of(6000, schemes([]int{0}))
	if got, e := keep.Kept(none, keep.Choice{Contribs: []int{0}}); got != 0 || e != api.ErrMissing {
		t.Errorf("Kept of a contribution that there isn't: %d, %v", got, e)
	}
	if got, e := keep.Kept(none, keep.Choice{}); got != full || e != api.OK {
		t.Errorf("Kept without contributions: %d, %v", got, e)
	}
}

// choices: all of a table, the limit's first, then by scheme, band, and the contributions' bands.
func choices(t api.Table) []keep.Choice {
	list := []keep.Choice{{Scheme: -1, Band: -1, Kept: full - t.Limit}}
	for i, s := range t.Schemes {
		for j, b := range s {
			list = append(list, keep.Choice{Scheme: i, Band: j, Kept: full - b.Rate})
		}
	}
	for _, c := range t.Contribs {
		var more []keep.Choice
		for _, x := range list {
			for i, b := range c.Bands {
				more = append(more, keep.Choice{Scheme: x.Scheme, Band: x.Band, Contribs: append(slices.Clone(x.Contribs), i), Kept: x.Kept - b.Rate})
			}
		}
		list = more
	}
	return list
}

// chance: a table that may be; of few rates, so that some are alike.
func chance(r *rand.Rand, widest int) api.Table {
	rates := func() []int {
		list := make([]int, 1+r.Intn(3))
		for i := range list {
			list[i] = r.Intn(4) * widest
		}
		return list
	}
	var all [][]int
	for range 1 + r.Intn(3) {
		all = append(all, rates())
	}
	var contribs [][]int
	for range r.Intn(4) {
		contribs = append(contribs, rates())
	}
	return of(r.Intn(4)*widest, schemes(all...), contribs...)
}

// P10.1: what each choice keeps, of all; the worst one is the first of those of which the least is.
func TestWorst(t *testing.T) {
	r := rand.New(rand.NewSource(101))
	for range 2000 {
		x := chance(r, []int{1, 100, 900, 3333}[r.Intn(4)])
		var worst keep.Choice
		for i, c := range choices(x) {
			if got, e := keep.Kept(x, c); got != c.Kept || e != api.OK {
				t.Fatalf("Kept(%v, %v): %d, %v", x, c, got, e)
			}
			if i == 0 || c.Kept < worst.Kept {
				worst = c
			}
		}
		if got, e := keep.Worst(x); !same(got, worst) || e != api.OK {
			t.Fatalf("Worst(%v): %v, %v, not %v", x, got, e, worst)
		}
	}
}

// P10.2: the table is accepted, if each choice keeps one in 20.
func TestCheck(t *testing.T) {
	for kept := -3; kept < 1005; kept++ {
		want := api.OK
		if kept*maxKeepDen < full {
			want = api.ErrKeep
		}
		for _, x := range []api.Table{of(full-3-kept, schemes([]int{0}), []int{1}, []int{2}), of(0, schemes([]int{1}, []int{0, 9000 - kept, 0}), []int{0, 1000}), of(50, schemes([]int{60}, []int{40}), []int{5000}, []int{4940 - kept})} {
			if full-3-kept > full { // then the limit itself may not be
				continue
			}
			if e := keep.Check(x); e != want {
				t.Errorf("Check, where %d are kept, of %v: %v, not %v", kept, x, e, want)
			}
		}
	}
}

// P10.3: numbers of any table, and their bounds of those that may be.
func TestNumbers(t *testing.T) {
	for _, c := range []struct {
		t                          api.Table
		components, window, pieces int
	}{
		{api.Table{}, 1, 42, 4},
		{of(0, schemes([]int{0})), 1, 42, 5},
		{of(0, schemes([]int{0}, []int{0, 0, 0}, []int{0, 0})), 1, 42, 7},
		{of(0, schemes([]int{0, 0}), []int{0}), 2, 82, 10},
		{of(0, schemes([]int{0}), []int{0}, []int{0, 0, 0}), 3, 122, 15},
		{of(0, nil, nil, []int{0}), 3, 122, 11},
		{of(0, slices.Repeat([][]api.Band{scheme(make([]int, mostBands)...)}, 8), slices.Repeat([][]int{make([]int, mostBands)}, 6)...), maxComponents, 282, 78},
		{of(0, [][]api.Band{make([]api.Band, 100), make([]api.Band, 200)}, make([][]int, 9)...), 10, 402, 231},
	} {
		if got := keep.Components(c.t); got != c.components {
			t.Errorf("Components(%v): %d, not %d", c.t, got, c.components)
		}
		if got := keep.Window(c.t); got != c.window {
			t.Errorf("Window(%v): %d, not %d", c.t, got, c.window)
		}
		if got := keep.Pieces(c.t); got != c.pieces {
			t.Errorf("Pieces(%v): %d, not %d", c.t, got, c.pieces)
		}
		if table.Check(c.t) == api.OK && (c.components > maxComponents || c.pieces > maxPieces) {
			t.Errorf("of %v there are too many", c.t)
		}
	}
}

// P10.4: by so much the limit, or the greatest rate of a scheme that is above it, or that of a contribution may rise, and no more.
func TestRoom(t *testing.T) {
	r := rand.New(rand.NewSource(104))
	for range 500 {
		x := chance(r, 300)
		room, e := keep.Room(x)
		worst, _ := keep.Worst(x)
		if room != worst.Kept-500 || e != api.OK || room < 0 {
			t.Fatalf("Room(%v): %d, %v", x, room, e)
		}
		rates := []*int{&x.Limit}
		if worst.Scheme >= 0 {
			rates[0] = &x.Schemes[worst.Scheme][worst.Band].Rate
		}
		for i, n := range worst.Contribs {
			rates = append(rates, &x.Contribs[i].Bands[n].Rate)
		}
		for _, rate := range rates {
			was := *rate
			*rate = was + room
			if e := keep.Check(x); e != api.OK {
				t.Fatalf("%v isn't accepted: %v", x, e)
			}
			*rate = was + room + 1
			if e := keep.Check(x); e != api.ErrKeep {
				t.Fatalf("%v is accepted: %v", x, e)
			}
			*rate = was
		}
	}
}

// cut: the greatest limit that isn't above a table's own by which it is accepted, sought one by one; -1, if there is none.
func cut(t api.Table) int {
	for t.Limit >= 0 && keep.Check(t) != api.OK {
		t.Limit--
	}
	return t.Limit
}

// P10.4: the table with the greatest limit by which it is accepted.
func TestCut(t *testing.T) {
	for _, c := range []struct {
		t    api.Table
		want int
	}{
		{of(8500, schemes([]int{0, 4000}), []int{1000}), 8500}, {of(8501, schemes([]int{0, 4000}), []int{1000}), 8500}, {of(full, schemes([]int{0, 4000}), []int{1000}), 8500}, {of(100, schemes([]int{0, 4000}), []int{1000}), 100},
		{of(full, schemes([]int{8500}), []int{1000}), 8500}, {of(full, schemes([]int{8499}), []int{1000}), 8500}, {of(full, schemes([]int{8501}), []int{1000}), -1}, {of(0, schemes([]int{8501}), []int{1000}), -1}, {of(8501, schemes([]int{8501}), []int{1000}), -1},
		{of(1, schemes([]int{0}), []int{9500}), 0}, {of(0, schemes([]int{0}), []int{9500}), 0}, {of(0, schemes([]int{0}), []int{9501}), -1}, {of(5, schemes([]int{0}), []int{9501}), -1}, {of(full, schemes([]int{0}), []int{full}, []int{full}), -1},
		{of(full, schemes([]int{0})), 9500}, {of(9500, schemes([]int{0})), 9500}, {of(9501, schemes([]int{9500})), 9500}, {of(9501, schemes([]int{9501})), -1},
	} {
		cuts(t, c.t, c.want)
	}
	r := rand.New(rand.NewSource(1041))
	for range 60 {
		x := chance(r, []int{900, 2000, 3000, 3333}[r.Intn(4)])
		cuts(t, x, cut(x))
	}
}

// cuts tells a test's fault, if Cut answers otherwise than the table with that limit, or nothing, if it is below 0.
func cuts(t *testing.T, x api.Table, limit int) {
	t.Helper()
	want := api.Table{}
	if limit >= 0 {
		want = table.Clone(x)
		want.Limit = limit
	}
	was := table.Clone(x)
	if got, ok := keep.Cut(x); !reflect.DeepEqual(got, want) || ok != (limit >= 0) || !reflect.DeepEqual(x, was) {
		t.Errorf("Cut(%v): %v, %v, not %v", x, got, ok, want)
	}
}

// P2: what is handed in stays as it is, and is shared with no answer.
func TestMemory(t *testing.T) {
	x := of(8501, schemes([]int{0, 4000}, []int{1}), []int{1000, 0})
	x.Schemes = append(make([][]api.Band, 0, 5), x.Schemes...)
	was := table.Clone(x)
	given := append(make([]int, 0, 3), 0, 7)[:1]
	keep.Kept(x, keep.Choice{Contribs: given})
	worst, _ := keep.Worst(x)
	other, _ := keep.Worst(x)
	other.Contribs[0] = 9
	lines, again := keep.Lines(x), keep.Lines(x)
	again[0] = "x"
	a, _ := keep.Cut(x)
	b, _ := keep.Cut(x)
	want := table.Clone(a)
	for _, y := range []api.Table{b, x} {
		y.Schemes[0][0].From, y.Contribs[0].Bands[0].From, y.Contribs[0].Round, y.Kinds[0].Cash = 7, 7, 7, 7
		y.Schemes[1] = nil
	}
	if !reflect.DeepEqual(a, want) || worst.Contribs[0] != 0 || lines[0] != "limit 8501" {
		t.Error("an answer shares with another one, or with what is handed in")
	}
	if x.Limit != 8501 || len(was.Schemes) != 2 || given[:2][1] != 7 || len(x.Schemes[:3][2]) != 0 {
		t.Error("what is handed in was changed")
	}
}

// P1: no call panics, whatever it is given.
func TestEnds(t *testing.T) {
	r := rand.New(rand.NewSource(10))
	numbers := []int{math.MinInt, -2, -1, 0, 1, 2, 7, 8, full, full + 1, math.MaxInt}
	number := func() int { return numbers[r.Intn(len(numbers))] }
	for range 5000 {
		x := chance(r, 3000)
		for range r.Intn(3) {
			switch r.Intn(6) {
			case 0:
				x.Limit = number()
			case 1:
				x.Schemes[0] = scheme(number())
			case 2:
				x.Schemes = append(x.Schemes, nil)
			case 3:
				x.Contribs = append(x.Contribs, api.Contrib{Name: strconv.Itoa(number()), Bands: bands(number(), number())})
			case 4:
				x.Schemes = [][]api.Band{{}}
			case 5:
				x.Kinds = nil
			}
		}
		c := keep.Choice{Scheme: number(), Band: number(), Kept: number()}
		for range r.Intn(4) {
			c.Contribs = append(c.Contribs, number())
		}
		func() {
			defer func() {
				if why := recover(); why != nil {
					t.Errorf("%v, %v: %v", x, c, why)
				}
			}()
			worst, e := keep.Worst(x)
			if kept, f := keep.Kept(x, worst); e == api.OK && (kept != worst.Kept || f != api.OK) {
				t.Errorf("Worst(%v): %v, of which %d are kept, %v", x, worst, kept, f)
			}
			keep.Kept(x, c)
			keep.Components(x)
			keep.Window(x)
			keep.Pieces(x)
			was, _ := keep.Room(x)
			keep.Check(x)
			keep.Cut(x)
			keep.Lines(x)
			if is, _ := keep.Room(x); is != was || fmt.Sprint(keep.Lines(x)) != fmt.Sprint(keep.Lines(x)) {
				t.Errorf("the same calls with %v answer otherwise", x)
			}
		}()
	}
}
