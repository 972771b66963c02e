package band_test

import (
	"fmt"
	"math"
	"math/big"
	"math/rand"
	"slices"
	"testing"

	"stipend/api"
	"stipend/band"
	"stipend/frac"
)

// The document's limits.
const (
	most = 8
	full = 10_000
	top  = 100_000_000_000
	side = 1_048_576 // the greatest of a fraction by which is scaled
)

// edges: amounts at which something may go over.
var edges = []int64{
	math.MinInt64, math.MinInt64 + 1, -1 << 62, -top - 1, -top, -top + 1, -10001, -10000, -2, -1, 0, 1, 2, 99, 100, 101, 299, 300, 301,
	9999, 10000, 10001, 1 << 32, top - 1, top, top + 1, 1 << 62, math.MaxInt64 - 1, math.MaxInt64,
}

// example: the document's: free up to 100, a fifth up to 300, two fifths above; the employer's rates differ.
func example() []api.Band {
	return []api.Band{{From: 0, Rate: 0, Employer: 100}, {From: 100, Rate: 2000, Employer: 0}, {From: 300, Rate: 4000, Employer: 2500}}
}

// rising: so many bands, one coin apart, each rate one more than the one ahead.
func rising(n int) []api.Band {
	list := make([]api.Band, n)
	for i := range list {
		list[i] = api.Band{From: int64(i), Rate: i + 1, Employer: 2 * i}
	}
	return list
}

// chance: bands that may be, the same at each run.
func chance(r *rand.Rand, widest int64) []api.Band {
	list := []api.Band{{From: 0}}
	for n := r.Intn(most); n > 0; n-- {
		if from := list[len(list)-1].From + 1 + r.Int63n(widest); from <= top {
			list = append(list, api.Band{From: from})
		}
	}
	for i := range list {
		list[i].Rate, list[i].Employer = r.Intn(full+1), r.Intn(full+1)
		if i > 0 && r.Intn(3) == 0 {
			list[i].Rate, list[i].Employer = list[i-1].Rate, list[i-1].Employer
		}
	}
	return list
}

// with: a list with another band in a place.
func with(list []api.Band, i int, b api.Band) []api.Band {
	list = slices.Clone(list)
	list[i] = b
	return list
}

// wrong: bands that may not be, and why.
var wrong = []struct {
	name string
	list []api.Band
	want api.Errno
}{
	{"none", nil, api.ErrLong},
	{"none, but not nil", []api.Band{}, api.ErrLong},
	{"nine", rising(most + 1), api.ErrLong},
	{"nine, and all else wrong", make([]api.Band, most+1), api.ErrLong},
	{"many", make([]api.Band, 1000), api.ErrLong},
	{"the first one not from 0", []api.Band{{From: 1}}, api.ErrRange},
	{"the first one below 0", []api.Band{{From: -1}}, api.ErrRange},
	{"the first one beyond the most", []api.Band{{From: top + 1}}, api.ErrRange},
	{"the first one not from 0, and no rate", []api.Band{{From: 1, Rate: -1}}, api.ErrRange},
	{"one below 0, and so not above", with(example(), 1, api.Band{From: -1}), api.ErrRange},
	{"one beyond the most", with(example(), 2, api.Band{From: top + 1}), api.ErrRange},
	{"the greatest number", with(example(), 2, api.Band{From: math.MaxInt64}), api.ErrRange},
	{"the least number", with(example(), 2, api.Band{From: math.MinInt64}), api.ErrRange},
	{"two alike", with(example(), 2, api.Band{From: 100}), api.ErrOrder},
	{"two from 0", with(example(), 1, api.Band{From: 0}), api.ErrOrder},
	{"falling", with(example(), 2, api.Band{From: 99}), api.ErrOrder},
	{"falling, and no rate", with(example(), 2, api.Band{From: 99, Rate: -1}), api.ErrOrder},
	{"a rate below 0", with(example(), 1, api.Band{From: 100, Rate: -1}), api.ErrRate},
	{"a rate above the whole", with(example(), 1, api.Band{From: 100, Rate: full + 1}), api.ErrRate},
	{"an employer's rate below 0", with(example(), 2, api.Band{From: 300, Employer: -1}), api.ErrRate},
	{"an employer's rate above the whole", with(example(), 0, api.Band{Employer: full + 1}), api.ErrRate},
	{"the greatest rate", with(example(), 0, api.Band{Rate: math.MaxInt}), api.ErrRate},
	{"the least rate", with(example(), 2, api.Band{From: 300, Employer: math.MinInt}), api.ErrRate},
	{"a wrong rate ahead of a wrong From", with(with(example(), 0, api.Band{Rate: -1}), 1, api.Band{From: -1}), api.ErrRate},
	{"a wrong order ahead of a wrong rate", with(with(example(), 1, api.Band{}), 2, api.Band{From: 300, Rate: -1}), api.ErrOrder},
	{"a wrong From ahead of a wrong order", with(with(example(), 1, api.Band{From: -5}), 2, api.Band{From: -5}), api.ErrRange},
}

func TestLimit(t *testing.T) {
	if band.Most != most {
		t.Error("Most isn't the document's")
	}
}

// P5.1: bands that may be, up to the edges of all that they have.
func TestCheck(t *testing.T) {
	for _, list := range [][]api.Band{
		example(), rising(1), rising(most), {{}}, {{Rate: full, Employer: full}},
		{{}, {From: top}}, {{}, {From: top - 1, Rate: full}, {From: top, Employer: full}}, {{}, {From: 1}},
	} {
		if e := band.Check(list...); e != api.OK {
			t.Errorf("Check(%v): %v", list, e)
		}
	}
}

// P5.1, P5.2, P5.4: bands that may not be; all calls that look at them tell the same, ahead of all else.
func TestWrongBands(t *testing.T) {
	for _, c := range wrong {
		if e := band.Check(c.list...); e != c.want {
			t.Errorf("Check of %s: %v, not %v", c.name, e, c.want)
		}
		for _, x := range []int64{350, 0, -1, top + 1, math.MinInt64} {
			a, e := band.Exact(x, c.list...)
			b, f := band.Employer(x, c.list...)
			d, g := band.Between(x, 0, c.list...)
			if a != 0 || b != 0 || d != 0 || e != c.want || f != c.want || g != c.want {
				t.Errorf("%d by %s: %d, %v, %d, %v, %d, %v, not %v", x, c.name, a, e, b, f, d, g, c.want)
			}
		}
		for _, n := range []int{0, 1, 2, -1} {
			if list, e := band.Scale(n, 1, c.list...); len(list) != 0 || e != c.want {
				t.Errorf("Scale(%d, 1) of %s: %v, %v, not %v", n, c.name, list, e, c.want)
			}
		}
	}
}

// P5.2: the document's example, corner by corner.
func TestExactExample(t *testing.T) {
	list := example()
	for _, c := range []struct {
		x        int64
		own, his frac.Exact
	}{
		{350, 600_000, 10_000 + 125_000}, {-1, 0, 0}, {0, 0, 0}, {1, 0, 100}, {99, 0, 9900}, {100, 0, 10_000}, {101, 2000, 10_000},
		{299, 398_000, 10_000}, {300, 400_000, 10_000}, {301, 404_000, 12_500}, {302, 408_000, 15_000}, {-top, 0, 0},
	} {
		if got, e := band.Exact(c.x, list...); got != c.own || e != api.OK {
			t.Errorf("Exact(%d): %d, %v, not %d", c.x, got, e, c.own)
		}
		if got, e := band.Employer(c.x, list...); got != c.his || e != api.OK {
			t.Errorf("Employer(%d): %d, %v, not %d", c.x, got, e, c.his)
		}
	}
}

// coinwise: what x comes to, coin by coin: each by the rate of the last band that begins below it.
func coinwise(x int64, list []api.Band, rate func(api.Band) int) int64 {
	sum := int64(0)
	for coin := int64(1); coin <= x; coin++ {
		own := 0
		for _, b := range list {
			if b.From < coin {
				own = rate(b)
			}
		}
		sum += int64(own)
	}
	return sum
}

func own(b api.Band) int { return b.Rate }

func his(b api.Band) int { return b.Employer }

// P5.2: all small amounts, coin by coin.
func TestExactCoins(t *testing.T) {
	r := rand.New(rand.NewSource(5))
	for range 60 {
		list := chance(r, 12)
		for x := int64(-3); x <= 90; x++ {
			if got, e := band.Exact(x, list...); int64(got) != coinwise(x, list, own) || e != api.OK {
				t.Fatalf("Exact(%d, %v): %d, %v", x, list, got, e)
			}
			if got, e := band.Employer(x, list...); int64(got) != coinwise(x, list, his) || e != api.OK {
				t.Fatalf("Employer(%d, %v): %d, %v", x, list, got, e)
			}
		}
	}
}

// worded: what x comes to, in big numbers, band by band from the first one on, as the document's words go.
func worded(x int64, list []api.Band, rate func(api.Band) int) int64 {
	sum := new(big.Int)
	for i, b := range list {
		upto := x
		if i+1 < len(list) && list[i+1].From < x {
			upto = list[i+1].From
		}
		if upto > b.From {
			part := big.NewInt(upto - b.From)
			sum.Add(sum, part.Mul(part, big.NewInt(int64(rate(b)))))
		}
	}
	return sum.Int64()
}

// P5.2: great amounts, at the edges and at the bands' corners, and amounts that may not be.
func TestExact(t *testing.T) {
	r := rand.New(rand.NewSource(52))
	lists := [][]api.Band{example(), rising(most), {{Rate: full, Employer: full}}, {{Rate: full}, {From: top, Employer: full}}}
	for range 200 {
		lists = append(lists, chance(r, top/4))
	}
	for _, list := range lists {
		amounts := slices.Clone(edges)
		for _, b := range list {
			amounts = append(amounts, b.From-1, b.From, b.From+1)
		}
		for _, x := range amounts {
			want, wantHis, wantE := worded(x, list, own), worded(x, list, his), api.OK
			if x < -top || x > top {
				want, wantHis, wantE = 0, 0, api.ErrOverflow
			}
			if got, e := band.Exact(x, list...); int64(got) != want || e != wantE {
				t.Fatalf("Exact(%d, %v): %d, %v, not %d, %v", x, list, got, e, want, wantE)
			}
			if got, e := band.Employer(x, list...); int64(got) != wantHis || e != wantE {
				t.Fatalf("Employer(%d, %v): %d, %v, not %d, %v", x, list, got, e, wantHis, wantE)
			}
		}
	}
}

// P5.2: the whole of the most is the most that is exact.
func TestExactMost(t *testing.T) {
	list := []api.Band{{Rate: full, Employer: full}}
	if got, e := band.Exact(top, list...); got != frac.Most || e != api.OK {
		t.Errorf("Exact: %d, %v", got, e)
	}
	if got, e := band.Between(top, -top, list...); got != -frac.Most || e != api.OK {
		t.Errorf("Between: %d, %v", got, e)
	}
}

// P5.2: Between, forwards, backwards, and with amounts that may not be.
func TestBetween(t *testing.T) {
	for _, list := range [][]api.Band{example(), rising(most), {{Rate: full}}} {
		for _, from := range edges {
			for _, to := range edges {
				want, wantE := worded(to, list, own)-worded(from, list, own), api.OK
				if from < -top || from > top || to < -top || to > top {
					want, wantE = 0, api.ErrOverflow
				}
				if got, e := band.Between(from, to, list...); int64(got) != want || e != wantE {
					t.Errorf("Between(%d, %d, %v): %d, %v, not %d, %v", from, to, list, got, e, want, wantE)
				}
			}
		}
	}
	if got, e := band.Between(200, 350, example()...); got != 400_000 || e != api.OK {
		t.Errorf("from 200 up to 350: %d, %v", got, e)
	}
}

// P5.3: the band in which an amount ends.
func TestFind(t *testing.T) {
	list := example()
	for x, want := range map[int64]int{
		math.MinInt64: 0, -1: 0, 0: 0, 1: 0, 99: 0, 100: 0, 101: 1, 300: 1, 301: 2, top: 2, top + 1: 2, math.MaxInt64: 2,
	} {
		if got := band.Find(x, list...); got != want {
			t.Errorf("Find(%d): %d, not %d", x, got, want)
		}
	}
	for x := int64(-1); x < 12; x++ {
		if got, want := band.Find(x, rising(most)...), int(max(0, min(x-1, most-1))); got != want {
			t.Errorf("Find(%d) of eight: %d, not %d", x, got, want)
		}
	}
	if got := band.Find(top, api.Band{}); got != 0 {
		t.Errorf("Find of one: %d", got)
	}
	if got := band.Find(top, api.Band{}, api.Band{From: top}); got != 0 {
		t.Errorf("Find of the most where a band begins: %d", got)
	}
	for _, c := range wrong { // of these nothing is promised, but that it ends
		band.Find(1, c.list...)
	}
}

// P5.3: the greatest rate of the employee's.
func TestTop(t *testing.T) {
	for _, c := range []struct {
		list []api.Band
		want int
	}{
		{nil, 0}, {[]api.Band{{}}, 0}, {example(), 4000}, {rising(most), most}, {[]api.Band{{Rate: 5}, {From: 1, Rate: 3}}, 5},
		{[]api.Band{{Rate: 1, Employer: 9}, {From: 1, Rate: 7}, {From: 2, Rate: 4, Employer: 9}}, 7},
		{[]api.Band{{Rate: -5}, {Rate: -3}}, 0}, {[]api.Band{{Employer: 5}}, 0}, {[]api.Band{{Rate: full}, {From: 1}}, full},
		{[]api.Band{{Rate: math.MinInt}, {Rate: math.MaxInt}}, math.MaxInt},
	} {
		if got := band.Top(c.list...); got != c.want {
			t.Errorf("Top(%v): %d, not %d", c.list, got, c.want)
		}
	}
}

// P5.3: the amounts at which the rates may change.
func TestCorners(t *testing.T) {
	for _, c := range []struct {
		list []api.Band
		want []int64
	}{
		{nil, nil}, {[]api.Band{{}}, nil}, {example(), []int64{100, 300}}, {rising(4), []int64{1, 2, 3}},
		{[]api.Band{{From: 7}, {From: 0}, {From: 3}, {From: 3}}, []int64{0, 3, 3}}, {[]api.Band{{}, {From: top}}, []int64{top}},
	} {
		if got := band.Corners(c.list...); !slices.Equal(got, c.want) {
			t.Errorf("Corners(%v): %v, not %v", c.list, got, c.want)
		}
	}
}

// scaled: the document's words in big numbers: of each From the part, and of those alike the last one alone.
func scaled(n, d int, list []api.Band) []api.Band {
	from := func(b api.Band) int64 {
		x := big.NewInt(b.From)
		x.Mul(x, big.NewInt(int64(n)))
		return x.Div(x, big.NewInt(int64(d))).Int64()
	}
	var out []api.Band
	for i, b := range list {
		if i+1 < len(list) && from(list[i+1]) == from(b) {
			continue
		}
		out = append(out, api.Band{From: from(b), Rate: b.Rate, Employer: b.Employer})
	}
	return out
}

// P5.4: bands of a part of the year.
func TestScale(t *testing.T) {
	got, e := band.Scale(1, 12, example()...)
	if want := []api.Band{{Employer: 100}, {From: 8, Rate: 2000}, {From: 25, Rate: 4000, Employer: 2500}}; !slices.Equal(got, want) || e != api.OK {
		t.Errorf("a month: %v, %v", got, e)
	}
	r := rand.New(rand.NewSource(54))
	fractions := [][2]int{{0, 1}, {1, 1}, {0, side}, {1, side}, {side, side}, {side - 1, side}, {1, 2}, {1, 3}, {2, 3}, {1, 12}, {1, 52}, {7, 400}, {1, 500}}
	for range 40 {
		d := 1 + r.Intn(side)
		fractions = append(fractions, [2]int{r.Intn(d + 1), d})
	}
	lists := [][]api.Band{example(), rising(most), {{Rate: 7}}, {{}, {From: top - 1, Rate: 1}, {From: top, Rate: 2}}}
	for range 60 {
		lists = append(lists, chance(r, 1+r.Int63n(top/4)))
	}
	for _, list := range lists {
		for _, f := range fractions {
			got, e := band.Scale(f[0], f[1], list...)
			if want := scaled(f[0], f[1], list); !slices.Equal(got, want) || e != api.OK {
				t.Fatalf("Scale(%d, %d, %v): %v, %v, not %v", f[0], f[1], list, got, e, want)
			}
			if e := band.Check(got...); e != api.OK {
				t.Fatalf("Scale(%d, %d, %v) may not be: %v", f[0], f[1], list, e)
			}
		}
	}
}

// P5.4: of bands that come to the same amount the last one alone is left.
func TestScaleAlike(t *testing.T) {
	for _, c := range []struct {
		n, d int
		want []api.Band
	}{
		{0, 5, []api.Band{{From: 0, Rate: 8, Employer: 14}}},
		{1, 2, []api.Band{{From: 0, Rate: 2, Employer: 2}, {From: 1, Rate: 4, Employer: 6}, {From: 2, Rate: 6, Employer: 10}, {From: 3, Rate: 8, Employer: 14}}},
		{1, 7, []api.Band{{From: 0, Rate: 7, Employer: 12}, {From: 1, Rate: 8, Employer: 14}}},
		{3, 3, rising(most)},
	} {
		if got, e := band.Scale(c.n, c.d, rising(most)...); !slices.Equal(got, c.want) || e != api.OK {
			t.Errorf("Scale(%d, %d): %v, %v, not %v", c.n, c.d, got, e, c.want)
		}
	}
}

// P5.4: fractions that may not be.
func TestScaleRefuses(t *testing.T) {
	for _, f := range [][2]int{
		{0, 0}, {1, 0}, {0, -1}, {-1, -1}, {-2, -1}, {-1, 1}, {2, 1}, {13, 12}, {side + 1, side}, {0, side + 1}, {side, side + 1}, {side + 1, side + 1},
		{math.MinInt, 1}, {math.MaxInt, 1}, {1, math.MaxInt}, {1, math.MinInt}, {math.MinInt, math.MinInt}, {math.MaxInt, math.MaxInt}, {0, math.MinInt},
	} {
		for _, list := range [][]api.Band{example(), {{}}} {
			if got, e := band.Scale(f[0], f[1], list...); len(got) != 0 || e != api.ErrRange {
				t.Errorf("Scale(%d, %d): %v, %v", f[0], f[1], got, e)
			}
		}
	}
}

// P5.5: bands joined.
func TestJoin(t *testing.T) {
	for _, c := range []struct{ list, want []api.Band }{
		{nil, nil},
		{[]api.Band{{}}, []api.Band{{}}},
		{example(), example()},
		{[]api.Band{{Rate: 1}, {From: 5, Rate: 1}}, []api.Band{{Rate: 1}}},
		{[]api.Band{{Rate: 1}, {From: 5, Rate: 1, Employer: 1}}, []api.Band{{Rate: 1}, {From: 5, Rate: 1, Employer: 1}}},
		{[]api.Band{{Employer: 1}, {From: 5, Rate: 1, Employer: 1}}, []api.Band{{Employer: 1}, {From: 5, Rate: 1, Employer: 1}}},
		{[]api.Band{{Rate: 1}, {From: 5, Rate: 1}, {From: 6, Rate: 1}, {From: 7, Rate: 2}}, []api.Band{{Rate: 1}, {From: 7, Rate: 2}}},
		{[]api.Band{{Rate: 1}, {From: 5, Rate: 2}, {From: 6, Rate: 1}}, []api.Band{{Rate: 1}, {From: 5, Rate: 2}, {From: 6, Rate: 1}}},
		{[]api.Band{{Rate: 1}, {From: 5, Rate: 2}, {From: 6, Rate: 2}, {From: 9}, {From: 10}}, []api.Band{{Rate: 1}, {From: 5, Rate: 2}, {From: 9}}},
		{make([]api.Band, 20), make([]api.Band, 1)},
	} {
		if got := band.Join(c.list...); !slices.Equal(got, c.want) {
			t.Errorf("Join(%v): %v, not %v", c.list, got, c.want)
		}
	}
}

// P5.5: joined bands come to the same.
func TestJoinComesToTheSame(t *testing.T) {
	r := rand.New(rand.NewSource(55))
	for range 100 {
		list := chance(r, 12)
		joined := band.Join(list...)
		if e := band.Check(joined...); e != api.OK || !band.Same(list, joined) {
			t.Fatalf("Join(%v): %v, %v", list, joined, e)
		}
		for x := int64(0); x < 90; x++ {
			if coinwise(x, list, own) != coinwise(x, joined, own) || coinwise(x, list, his) != coinwise(x, joined, his) {
				t.Fatalf("Join(%v): %v, at %d", list, joined, x)
			}
		}
	}
}

// P5.5: lists that are the same, joined, and lists that aren't.
func TestSame(t *testing.T) {
	split := []api.Band{{Employer: 100}, {From: 50, Employer: 100}, {From: 100, Rate: 2000}, {From: 300, Rate: 4000, Employer: 2500}, {From: 400, Rate: 4000, Employer: 2500}}
	for _, c := range []struct {
		a, b []api.Band
		want bool
	}{
		{nil, nil, true}, {nil, []api.Band{}, true}, {nil, []api.Band{{}}, false},
		{example(), example(), true}, {example(), split, true}, {split, split, true},
		{example(), with(example(), 1, api.Band{From: 101, Rate: 2000}), false},
		{example(), with(example(), 1, api.Band{From: 100, Rate: 2001}), false},
		{example(), with(example(), 1, api.Band{From: 100, Rate: 2000, Employer: 1}), false},
		{example(), example()[:2], false}, {example(), with(split, 3, api.Band{From: 301, Rate: 4000, Employer: 2500}), false},
		{[]api.Band{{}}, make([]api.Band, 9), true}, {[]api.Band{{}}, []api.Band{{From: 1}}, false},
	} {
		if band.Same(c.a, c.b) != c.want || band.Same(c.b, c.a) != c.want {
			t.Errorf("Same(%v, %v) isn't %v", c.a, c.b, c.want)
		}
	}
}

// roomy: a list with spare room, and all of it as it was.
func roomy(list []api.Band) ([]api.Band, []api.Band) {
	room := append(append(make([]api.Band, 0, len(list)+3), list...), api.Band{From: -7}, api.Band{From: -8}, api.Band{From: -9})
	return room[:len(list)], slices.Clone(room)
}

// P2: lists that are handed in stay as they are, their spare room too, and answers are new memory.
func TestMemory(t *testing.T) {
	for _, list := range [][]api.Band{nil, {{Rate: 1}}, example(), {{Rate: 1}, {From: 5, Rate: 1}, {From: 6, Rate: 1}, {From: 7, Rate: 2}}, rising(most)} {
		given, was := roomy(list)
		for name, call := range map[string]func() []api.Band{
			"Scale":     func() []api.Band { got, _ := band.Scale(1, 2, given...); return got },
			"Scale all": func() []api.Band { got, _ := band.Scale(1, 1, given...); return got },
			"Join":      func() []api.Band { return band.Join(given...) },
		} {
			got, again := call(), call()
			want := slices.Clone(got)
			spoil(again)
			if !slices.Equal(got, want) {
				t.Errorf("%s of %v shares with another answer", name, list)
			}
			spoil(got)
			if !slices.Equal(given[:cap(given)], was) {
				t.Errorf("%s of %v changes or shares what is handed in", name, list)
			}
		}
		corners := band.Corners(given...)
		for i := range corners {
			corners[i] = -77
		}
		band.Same(given, given)
		band.Check(given...)
		if _, e := band.Between(1, 350, given...); len(list) > 0 && e != api.OK || !slices.Equal(given[:cap(given)], was) {
			t.Errorf("%v was changed, or %v", list, e)
		}
	}
}

// spoil: writes over all of an answer, its spare room too.
func spoil(list []api.Band) {
	list = list[:cap(list)]
	for i := range list {
		list[i] = api.Band{From: -77, Rate: -77, Employer: -77}
	}
}

// P1: no call panics, whatever it is given.
func TestEnds(t *testing.T) {
	lists := [][]api.Band{nil, example(), make([]api.Band, 100)}
	for _, from := range edges {
		for _, rate := range []int{math.MinInt, -1, 0, full, full + 1, math.MaxInt} {
			lists = append(lists, []api.Band{{From: from, Rate: rate, Employer: -rate}, {From: -from, Rate: -rate, Employer: rate}})
		}
	}
	for _, list := range lists {
		for _, x := range edges {
			name := fmt.Sprintf("%d, %v", x, list)
			func() {
				defer func() {
					if p := recover(); p != nil {
						t.Errorf("%s: %v", name, p)
					}
				}()
				band.Find(x, list...)
				band.Exact(x, list...)
				band.Employer(x, list...)
				band.Between(x, -x, list...)
				band.Scale(int(x), int(-x), list...)
				band.Top(list...)
				band.Corners(list...)
				band.Same(band.Join(list...), list)
			}()
		}
	}
}
