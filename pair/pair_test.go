package pair_test

import (
	"fmt"
	"math"
	"math/big"
	"math/rand"
	"slices"
	"testing"

	"stipend/api"
	"stipend/band"
	"stipend/frac"
	"stipend/pair"
)

// The document's limits.
const (
	most = 9_007_199_254_740_992
	full = 10_000
	top  = 100_000_000_000
)

// edges: sides at which something may go over, be rounded, or wrap round.
var edges = []int64{
	math.MinInt64, math.MinInt64 + 1, -1 << 62, -most - 2, -most - 1, -most, -most + 1, -most/2 - 1, -most / 2, -top - 1, -top, -5000, -3, -2, -1, 0,
	1, 2, 3, 4999, 5000, 5001, 9999, 10000, 1 << 26, 1<<26 + 1, 1 << 27, 1<<27 - 1, 1 << 32, top, top + 1, 3002399751580331, most / 2, most/2 + 1,
	most - 2, most - 1, most, most + 1, most + 2, 1 << 62, math.MaxInt64 - 1, math.MaxInt64,
}

// wrong: what is no pair, for each number of which one side may be.
var wrong = []float64{
	math.NaN(), math.Inf(1), math.Inf(-1), 0.5, -0.5, 1.25, most + 2, -most - 2, most * 2, math.MaxFloat64, -math.MaxFloat64,
	math.SmallestNonzeroFloat64, -math.SmallestNonzeroFloat64, most/2 - 0.5, most/2 - 1.5, 1e300,
}

var modes = []int{api.Down, api.Up, api.Inward, api.HalfUp, api.HalfEven, api.HalfDown}

// wrongModes: there is no such way of rounding.
var wrongModes = []int{0, -1, 7, math.MinInt, math.MaxInt}

func exact(list ...int64) bool {
	for _, x := range list {
		if x < -most || x > most {
			return false
		}
	}
	return true
}

// of: a pair of sides that may be.
func of(t *testing.T, employee, employer int64) pair.Pair {
	t.Helper()
	p, e := pair.Of(employee, employer)
	if e != api.OK {
		t.Fatalf("Of(%d, %d): %v", employee, employer, e)
	}
	return p
}

// raw: any complex number.
func raw(employee, employer float64) pair.Pair { return pair.Pair(complex(employee, employer)) }

// wrongs: what is no pair: one side wrong, or both.
func wrongs() []pair.Pair {
	var list []pair.Pair
	for i, x := range wrong {
		list = append(list, raw(x, 0), raw(0, x), raw(x, most), raw(-1, x), raw(x, wrong[(i+3)%len(wrong)]))
	}
	return list
}

// bits: a pair bit by bit: so a side of nought that has a sign isn't the one that has none.
func bits(p pair.Pair) [2]uint64 {
	return [2]uint64{math.Float64bits(real(p)), math.Float64bits(imag(p))}
}

// same: is an answer the pair of both sides, or the error and nothing?
func same(t *testing.T, call string, got pair.Pair, e api.Errno, employee, employer int64, want api.Errno) {
	t.Helper()
	if want != api.OK {
		employee, employer = 0, 0
	}
	if e != want || bits(got) != bits(raw(float64(employee), float64(employer))) {
		t.Errorf("%s: %v, %v, not %d and %d, %v", call, got, e, employee, employer, want)
	}
}

func TestLimit(t *testing.T) {
	if pair.Most != most {
		t.Error("Most isn't the document's")
	}
}

// P6.1: Of, Right, Sides and Share, of sides that may be and of those that may not.
func TestOf(t *testing.T) {
	for _, a := range edges {
		for _, b := range edges {
			want := api.ErrOverflow
			if exact(a, b) {
				want = api.OK
			}
			p, e := pair.Of(a, b)
			same(t, fmt.Sprintf("Of(%d, %d)", a, b), p, e, a, b, want)
			s, e := pair.Share(api.Share{Employee: a, Employer: b})
			same(t, fmt.Sprintf("Share of %d and %d", a, b), s, e, a, b, want)
			if want != api.OK {
				continue
			}
			if c, d, e := pair.Sides(p); c != a || d != b || e != api.OK || !pair.Right(p) {
				t.Errorf("Sides of %d and %d: %d, %d, %v", a, b, c, d, e)
			}
		}
	}
}

// P6.1: what is no pair.
func TestNoPair(t *testing.T) {
	for _, p := range wrongs() {
		if a, b, e := pair.Sides(p); a != 0 || b != 0 || e != api.ErrOverflow || pair.Right(p) {
			t.Errorf("%v: Right, or %d, %d, %v", p, a, b, e)
		}
	}
	if !pair.Right(raw(math.Copysign(0, -1), most)) || !pair.Right(raw(-most, 0)) || !pair.Right(0) {
		t.Error("Right is false of a pair")
	}
}

// P6.1: both parts exchanged, whatever they are.
func TestSwap(t *testing.T) {
	for _, c := range [][2]float64{{1, 2}, {-5, 0}, {most, -most}, {0.5, math.Inf(-1)}, {math.MaxFloat64, 3}, {0, 0}} {
		if got := pair.Swap(raw(c[0], c[1])); bits(got) != bits(raw(c[1], c[0])) {
			t.Errorf("Swap of %v: %v", c, got)
		}
	}
	if got := pair.Swap(raw(math.NaN(), 3)); real(got) != 3 || !math.IsNaN(imag(got)) {
		t.Errorf("Swap of what is no number: %v", got)
	}
	if got := pair.Swap(raw(3, math.NaN())); imag(got) != 3 || !math.IsNaN(real(got)) {
		t.Errorf("Swap of what is no number: %v", got)
	}
}

// P6.2: two pairs together, and one less the other; one side goes over, or the other one does.
func TestAddSub(t *testing.T) {
	for _, a := range edges {
		for _, b := range edges {
			if !exact(a, b) {
				continue
			}
			for _, sides := range [][4]int64{{a, 7, b, 8}, {7, a, 8, b}, {a, b, b, a}} {
				p, q := of(t, sides[0], sides[1]), of(t, sides[2], sides[3])
				first, second := sides[0]+sides[2], sides[1]+sides[3] // of sides that may be no sum wraps round
				want := api.ErrOverflow
				if exact(first, second) {
					want = api.OK
				}
				got, e := pair.Add(p, q)
				same(t, fmt.Sprintf("Add of %v", sides), got, e, first, second, want)
				first, second = sides[0]-sides[2], sides[1]-sides[3]
				want = api.ErrOverflow
				if exact(first, second) {
					want = api.OK
				}
				got, e = pair.Sub(p, q)
				same(t, fmt.Sprintf("Sub of %v", sides), got, e, first, second, want)
			}
		}
	}
}

// P6.2: one by one from 0 on: each sum so far has to be a pair.
func TestAddOneByOne(t *testing.T) {
	big, one, less := of(t, most, -most), of(t, 1, 0), of(t, -1, 1)
	for _, c := range []struct {
		name   string
		list   []pair.Pair
		er, ee int64
		want   api.Errno
	}{
		{"none", nil, 0, 0, api.OK},
		{"one", []pair.Pair{big}, most, -most, api.OK},
		{"over, and back", []pair.Pair{big, one, less}, 0, 0, api.ErrOverflow},
		{"back, and up again", []pair.Pair{big, less, one}, most, 1 - most, api.OK},
		{"over by the first side", []pair.Pair{big, of(t, 1, 1)}, 0, 0, api.ErrOverflow},
		{"over by the second side", []pair.Pair{big, of(t, -1, -1)}, 0, 0, api.ErrOverflow},
		{"one more than the most, from one on", []pair.Pair{one, big}, 0, 0, api.ErrOverflow},
		{"one more than the most, in halves", []pair.Pair{of(t, most/2, 0), of(t, most/2+1, 0)}, 0, 0, api.ErrOverflow},
		{"one less than the least, in halves", []pair.Pair{of(t, 0, -most/2), of(t, 0, -most/2-1)}, 0, 0, api.ErrOverflow},
		{"the most, in halves", []pair.Pair{of(t, most/2, -1), of(t, most/2, 1)}, most, 0, api.OK},
		{"to nothing", []pair.Pair{big, of(t, -most, most)}, 0, 0, api.OK},
		{"noughts with a sign", []pair.Pair{raw(math.Copysign(0, -1), math.Copysign(0, -1))}, 0, 0, api.OK},
	} {
		got, e := pair.Add(c.list...)
		same(t, "Add: "+c.name, got, e, c.er, c.ee, c.want)
	}
}

// P6.2: many pairs, against sums in whole numbers.
func TestAddMany(t *testing.T) {
	r := rand.New(rand.NewSource(62))
	for range 300 {
		var list []pair.Pair
		var first, second int64
		want := api.OK
		for n := r.Intn(12); n > 0; n-- {
			a, b := r.Int63n(most)-most/2, r.Int63n(most)-most/2
			list = append(list, of(t, a, b))
			first, second = first+a, second+b
			if !exact(first, second) {
				want = api.ErrOverflow
			}
		}
		got, e := pair.Add(list...)
		same(t, fmt.Sprintf("Add(%v)", list), got, e, first, second, want)
	}
}

// P6.2, P6.4: what is no pair is refused, wherever it stands.
func TestWrongPairs(t *testing.T) {
	one := of(t, 1, 1)
	for _, p := range wrongs() {
		for name, list := range map[string][]pair.Pair{"alone": {p}, "behind": {one, p}, "ahead": {p, one}, "twice": {p, p}, "away again": {p, -p}} {
			got, e := pair.Add(list...)
			same(t, fmt.Sprintf("Add of %v %s", p, name), got, e, 0, 0, api.ErrOverflow)
		}
		got, e := pair.Sub(p, one)
		same(t, fmt.Sprintf("Sub of %v", p), got, e, 0, 0, api.ErrOverflow)
		got, e = pair.Sub(one, p)
		same(t, fmt.Sprintf("Sub by %v", p), got, e, 0, 0, api.ErrOverflow)
		got, e = pair.Sub(p, p)
		same(t, fmt.Sprintf("Sub of %v and itself", p), got, e, 0, 0, api.ErrOverflow)
		for _, n := range edges {
			got, e = pair.Times(p, n)
			same(t, fmt.Sprintf("Times(%v, %d)", p, n), got, e, 0, 0, api.ErrOverflow)
		}
		for _, mode := range append(slices.Clone(modes), wrongModes...) {
			if s, e := pair.Coins(p, mode); s != (api.Share{}) || e != api.ErrOverflow {
				t.Errorf("Coins(%v, %d): %v, %v", p, mode, s, e)
			}
		}
	}
}

// P6.2: so many times, against products in big numbers.
func TestTimes(t *testing.T) {
	product := func(x, n int64) *big.Int { return new(big.Int).Mul(big.NewInt(x), big.NewInt(n)) }
	fits := func(x *big.Int) bool { return x.IsInt64() && exact(x.Int64()) }
	r := rand.New(rand.NewSource(63))
	sides := append([]int64{0, 107, 28059810762433, 84179432287299, 321}, edges...)
	for range 100 {
		sides = append(sides, (r.Int63n(most)-most/2)>>r.Intn(53))
	}
	for _, a := range sides {
		for _, n := range sides {
			if !exact(a) {
				continue
			}
			for _, c := range [][2]int64{{a, 1}, {1, a}, {a, -a}, {a, 0}, {0, a}} {
				first, second := product(c[0], n), product(c[1], n)
				want := api.ErrOverflow
				if exact(n) && fits(first) && fits(second) {
					want = api.OK
				}
				got, e := pair.Times(of(t, c[0], c[1]), n)
				same(t, fmt.Sprintf("Times(%v, %d)", c, n), got, e, first.Int64(), second.Int64(), want)
			}
		}
	}
}

// P6.2: nothing may be taken only as often as may be told.
func TestTimesNothing(t *testing.T) {
	for _, n := range edges {
		want := api.OK
		if !exact(n) {
			want = api.ErrOverflow
		}
		got, e := pair.Times(0, n)
		same(t, fmt.Sprintf("Times(0, %d)", n), got, e, 0, 0, want)
	}
}

// example: the document's: free up to 100, above it a fifth, and a tenth of the employer's.
func example() []api.Band {
	return []api.Band{{}, {From: 100, Rate: 2000, Employer: 1000}}
}

// chance: bands that may be, the same at each run.
func chance(r *rand.Rand) []api.Band {
	list := []api.Band{{}}
	for n := r.Intn(band.Most); n > 0; n-- {
		list = append(list, api.Band{From: list[len(list)-1].From + 1 + r.Int63n(top/8)})
	}
	for i := range list {
		list[i].Rate, list[i].Employer = r.Intn(full+1), r.Intn(full+1)
	}
	return list
}

// P6.3: both sides by bands, at the edges and at the bands' corners, as layer 5 tells each of them.
func TestBanded(t *testing.T) {
	r := rand.New(rand.NewSource(6))
	lists := [][]api.Band{example(), {{}}, {{Rate: full, Employer: full}}, {{Employer: full}, {From: top, Rate: full}}, {{Rate: 1}, {From: 1, Employer: 2}, {From: 2, Rate: 3}}}
	for range 100 {
		lists = append(lists, chance(r))
	}
	for _, list := range lists {
		amounts := append([]int64{-top, top - 1, 350}, edges...)
		for _, b := range list {
			amounts = append(amounts, b.From-1, b.From, b.From+1)
		}
		for _, x := range amounts {
			own, e := band.Exact(x, list...)
			his, _ := band.Employer(x, list...)
			if want := x < -top || x > top; want != (e == api.ErrOverflow) {
				t.Fatalf("Exact(%d): %v", x, e)
			}
			got, f := pair.Banded(x, list...)
			same(t, fmt.Sprintf("Banded(%d, %v)", x, list), got, f, int64(own), int64(his), e)
		}
	}
}

// P6.3: the document's example, in parts and in coins.
func TestBandedExample(t *testing.T) {
	p, e := pair.Banded(350, example()...)
	same(t, "Banded(350)", p, e, 500_000, 250_000, api.OK)
	if s, e := pair.Coins(p, api.Down); s != (api.Share{Employee: 50, Employer: 25}) || e != api.OK {
		t.Errorf("350 comes to %v, %v", s, e)
	}
	p, e = pair.Banded(top, api.Band{Rate: full, Employer: full})
	same(t, "Banded of the most", p, e, frac.Most, frac.Most, api.OK)
}

// P6.3: bands that may not be are told ahead of an amount that may not be.
func TestBandedRefuses(t *testing.T) {
	for _, c := range []struct {
		list []api.Band
		want api.Errno
	}{
		{nil, api.ErrLong}, {make([]api.Band, band.Most+1), api.ErrLong}, {[]api.Band{{From: 1}}, api.ErrRange}, {[]api.Band{{}, {}}, api.ErrOrder},
		{[]api.Band{{Rate: -1}}, api.ErrRate}, {[]api.Band{{Employer: full + 1}}, api.ErrRate}, {[]api.Band{{}, {From: top + 1}}, api.ErrRange},
	} {
		for _, x := range edges {
			got, e := pair.Banded(x, c.list...)
			same(t, fmt.Sprintf("Banded(%d, %v)", x, c.list), got, e, 0, 0, c.want)
		}
	}
}

// P6.4: both sides in coins, rounded each by itself.
func TestCoins(t *testing.T) {
	r := rand.New(rand.NewSource(64))
	sides := slices.Clone(edges)
	for range 100 {
		sides = append(sides, (r.Int63n(most)-most/2)>>r.Intn(53), 5000*(r.Int63n(1000)-500))
	}
	for i, a := range sides {
		b := sides[(i+1)%len(sides)]
		if !exact(a, b) {
			continue
		}
		for _, mode := range modes {
			first, _ := frac.Round(a, full, mode)
			second, _ := frac.Round(b, full, mode)
			if s, e := pair.Coins(of(t, a, b), mode); s != (api.Share{Employee: first, Employer: second}) || e != api.OK {
				t.Errorf("Coins of %d and %d by %d: %v, %v, not %d and %d", a, b, mode, s, e, first, second)
			}
		}
		for _, mode := range wrongModes {
			if s, e := pair.Coins(of(t, a, b), mode); s != (api.Share{}) || e != api.ErrRange {
				t.Errorf("Coins of %d and %d by %d: %v, %v", a, b, mode, s, e)
			}
		}
	}
}

// P6.4: of halves one side goes another way than the other.
func TestCoinsWays(t *testing.T) {
	for mode, want := range map[int]api.Share{
		api.Down: {Employee: 2, Employer: -4}, api.Up: {Employee: 3, Employer: -3}, api.Inward: {Employee: 2, Employer: -3},
		api.HalfUp: {Employee: 3, Employer: -4}, api.HalfEven: {Employee: 2, Employer: -4}, api.HalfDown: {Employee: 2, Employer: -3},
	} {
		if s, e := pair.Coins(of(t, 25_000, -35_000), mode); s != want || e != api.OK {
			t.Errorf("by %d: %v, %v, not %v", mode, s, e, want)
		}
	}
}

// P6.4: shares together, each side by itself, one by one.
func TestTotal(t *testing.T) {
	for _, c := range []struct {
		list []api.Share
		sum  api.Share
		want api.Errno
	}{
		{nil, api.Share{}, api.OK},
		{[]api.Share{{Employee: 5, Employer: 7}}, api.Share{Employee: 5, Employer: 7}, api.OK},
		{[]api.Share{{Employee: 5, Employer: 7}, {Employee: -8, Employer: 1}, {Employee: 1}}, api.Share{Employee: -2, Employer: 8}, api.OK},
		{[]api.Share{{Employee: top, Employer: -top}, {Employee: -1, Employer: 1}}, api.Share{Employee: top - 1, Employer: 1 - top}, api.OK},
		{[]api.Share{{Employee: top - 1}, {Employee: 1, Employer: top}}, api.Share{Employee: top, Employer: top}, api.OK},
		{[]api.Share{{Employee: top}, {Employee: 1}}, api.Share{}, api.ErrOverflow},
		{[]api.Share{{Employer: top}, {Employer: 1}}, api.Share{}, api.ErrOverflow},
		{[]api.Share{{Employee: -top}, {Employee: -1}}, api.Share{}, api.ErrOverflow},
		{[]api.Share{{Employer: -top}, {Employer: -1}}, api.Share{}, api.ErrOverflow},
		{[]api.Share{{Employee: top}, {Employee: 1}, {Employee: -1}}, api.Share{}, api.ErrOverflow},
		{[]api.Share{{Employer: -top}, {Employer: -1}, {Employer: 1}}, api.Share{}, api.ErrOverflow},
		{[]api.Share{{Employee: top + 1}}, api.Share{}, api.ErrOverflow},
		{[]api.Share{{Employer: top + 1}}, api.Share{}, api.ErrOverflow},
		{[]api.Share{{Employee: 1, Employer: 1}, {Employee: math.MaxInt64}}, api.Share{}, api.ErrOverflow},
		{[]api.Share{{Employee: -1, Employer: -1}, {Employer: math.MinInt64}}, api.Share{}, api.ErrOverflow},
		{[]api.Share{{Employee: top, Employer: 3}, {Employee: -top - 1}}, api.Share{}, api.ErrOverflow},
		{[]api.Share{{Employer: top}, {Employer: -top - 1}}, api.Share{}, api.ErrOverflow},
	} {
		if got, e := pair.Total(c.list...); got != c.sum || e != c.want {
			t.Errorf("Total(%v): %v, %v, not %v, %v", c.list, got, e, c.sum, c.want)
		}
	}
}

// P2: lists that are handed in stay as they are, their spare room too.
func TestMemory(t *testing.T) {
	pairs := append(make([]pair.Pair, 0, 4), 1, 2i, -7, -8)
	bands := append(make([]api.Band, 0, 4), append(example(), api.Band{From: -7}, api.Band{From: -8})...)
	shares := append(make([]api.Share, 0, 3), api.Share{Employee: 1}, api.Share{Employer: 2}, api.Share{Employee: -7})
	wasPairs, wasBands, wasShares := slices.Clone(pairs), slices.Clone(bands), slices.Clone(shares)
	pair.Add(pairs[:2]...)
	pair.Banded(350, bands[:2]...)
	pair.Total(shares[:2]...)
	if !slices.Equal(pairs, wasPairs) || !slices.Equal(bands, wasBands) || !slices.Equal(shares, wasShares) {
		t.Error("what is handed in was changed")
	}
}

// P1: no call panics, whatever it is given.
func TestEnds(t *testing.T) {
	for _, p := range append(wrongs(), 0, 1, raw(most, -most)) {
		for _, x := range edges {
			func() {
				defer func() {
					if r := recover(); r != nil {
						t.Errorf("%v, %d: %v", p, x, r)
					}
				}()
				pair.Swap(p)
				pair.Add(p, pair.Swap(p))
				pair.Sub(pair.Swap(p), p)
				pair.Times(p, x)
				pair.Coins(p, int(x))
				pair.Banded(x, api.Band{From: x, Rate: int(x), Employer: int(-x)})
			}()
		}
	}
}
