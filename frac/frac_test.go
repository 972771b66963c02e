package frac_test

import (
	"fmt"
	"math"
	"math/big"
	"slices"
	"testing"

	"stipend/api"
	"stipend/frac"
)

// The document's limits.
const (
	most = 1_000_000_000_000_000
	full = 10_000
	top  = 100_000_000_000
)

// edges: numbers at which something may go over.
var edges = []int64{
	math.MinInt64, math.MinInt64 + 1, -1 << 62, -most - 1, -most, -most + 1, -top - 1, -top, -top + 1, -10001, -10000, -5000, -3, -2, -1, 0,
	1, 2, 3, 4, 5, 6, 7, 4999, 5000, 5001, 9999, 10000, 10001, 1048575, 1048576, 1048577, 1 << 32, 1<<32 + 1,
	top - 1, top, top + 1, most - 1, most, most + 1, 1 << 61, 1 << 62, math.MaxInt64 - 1, math.MaxInt64,
}

var modes = []int{api.Down, api.Up, api.Inward, api.HalfUp, api.HalfEven, api.HalfDown}

// wrongModes: there is no such way of rounding.
var wrongModes = []int{0, -1, 7, 8, math.MinInt, math.MaxInt}

func right(x int64) bool { return x >= -top && x <= top }

func exact(x int64) bool { return x >= -most && x <= most }

func same(t *testing.T, call string, got int64, e api.Errno, want int64, wantE api.Errno) {
	t.Helper()
	if got != want || e != wantE {
		t.Errorf("%s: %d, %v, not %d, %v", call, got, e, want, wantE)
	}
}

// rounded: n divided by d, by the document's words: of both neighbours the one that the way tells.
func rounded(n, d *big.Int, mode int) int64 {
	one := big.NewInt(1)
	lower, rest := new(big.Int).DivMod(n, d, new(big.Int))
	if rest.Sign() == 0 {
		return lower.Int64()
	}
	upper := new(big.Int).Add(lower, one)
	inner, outer := lower, upper
	if n.Sign() < 0 {
		inner, outer = upper, lower
	}
	even := lower
	if lower.Bit(0) == 1 {
		even = upper
	}
	nearest := new(big.Int).Lsh(rest, 1).Cmp(d)
	switch {
	case mode == api.Down:
		return lower.Int64()
	case mode == api.Up:
		return upper.Int64()
	case mode == api.Inward:
		return inner.Int64()
	case nearest < 0:
		return lower.Int64()
	case nearest > 0:
		return upper.Int64()
	case mode == api.HalfUp:
		return outer.Int64()
	case mode == api.HalfEven:
		return even.Int64()
	}
	return inner.Int64()
}

func checkRound(t *testing.T, n, d int64) {
	t.Helper()
	for _, mode := range modes {
		got, e := frac.Round(n, d, mode)
		if d <= 0 {
			same(t, fmt.Sprintf("Round(%d, %d, %d)", n, d, mode), got, e, 0, api.ErrRange)
			continue
		}
		want := rounded(big.NewInt(n), big.NewInt(d), mode)
		same(t, fmt.Sprintf("Round(%d, %d, %d)", n, d, mode), got, e, want, api.OK)
	}
}

func TestLimits(t *testing.T) {
	if frac.Full != full || frac.Most != most {
		t.Error("the limits aren't the document's")
	}
}

// P2.1: the ways that there are.
func TestMode(t *testing.T) {
	for _, mode := range modes {
		if !frac.Mode(mode) {
			t.Errorf("Mode(%d) is false", mode)
		}
	}
	for _, mode := range wrongModes {
		if frac.Mode(mode) {
			t.Errorf("Mode(%d) is true", mode)
		}
	}
}

// P2.1: how each way rounds, told number by number.
func TestRoundWays(t *testing.T) {
	for _, c := range []struct {
		n, d int64
		want [6]int64 // Down, Up, Inward, HalfUp, HalfEven, HalfDown
	}{
		{5, 2, [6]int64{2, 3, 2, 3, 2, 2}}, {-5, 2, [6]int64{-3, -2, -2, -3, -2, -2}},
		{7, 2, [6]int64{3, 4, 3, 4, 4, 3}}, {-7, 2, [6]int64{-4, -3, -3, -4, -4, -3}},
		{1, 2, [6]int64{0, 1, 0, 1, 0, 0}}, {-1, 2, [6]int64{-1, 0, 0, -1, 0, 0}},
		{4, 3, [6]int64{1, 2, 1, 1, 1, 1}}, {-4, 3, [6]int64{-2, -1, -1, -1, -1, -1}},
		{5, 3, [6]int64{1, 2, 1, 2, 2, 2}}, {-5, 3, [6]int64{-2, -1, -1, -2, -2, -2}},
		{6, 3, [6]int64{2, 2, 2, 2, 2, 2}}, {-6, 3, [6]int64{-2, -2, -2, -2, -2, -2}}, {0, 3, [6]int64{}},
	} {
		for i, mode := range modes {
			got, e := frac.Round(c.n, c.d, mode)
			same(t, fmt.Sprintf("Round(%d, %d, %d)", c.n, c.d, mode), got, e, c.want[i], api.OK)
		}
	}
}

// P2.1: all small numbers, and the greatest ones.
func TestRound(t *testing.T) {
	for n := int64(-60); n <= 60; n++ {
		for d := int64(-2); d <= 14; d++ {
			checkRound(t, n, d)
		}
	}
	for _, n := range edges {
		for _, d := range edges {
			checkRound(t, n, d)
		}
	}
	for _, d := range []int64{math.MaxInt64, math.MaxInt64 - 1, 1 << 62} { // nearly halves of what can't be doubled
		for i := int64(-2); i <= 2; i++ {
			checkRound(t, d/2+i, d)
			checkRound(t, -d/2+i, d)
		}
	}
}

// P2.1: what is refused.
func TestRoundRefuses(t *testing.T) {
	for _, mode := range wrongModes {
		for _, n := range edges {
			for _, d := range edges {
				got, e := frac.Round(n, d, mode)
				same(t, fmt.Sprintf("Round(%d, %d, %d)", n, d, mode), got, e, 0, api.ErrRange)
			}
		}
	}
}

// P2.2: what may be.
func TestRight(t *testing.T) {
	for _, x := range edges {
		if frac.Right(frac.Exact(x)) != exact(x) {
			t.Errorf("Right(%d) is %v", x, !exact(x))
		}
		if want := x >= 0 && x <= full; frac.Rate(int(x)) != want {
			t.Errorf("Rate(%d) is %v", x, !want)
		}
	}
}

// P2.2: Of.
func TestOf(t *testing.T) {
	for _, x := range edges {
		want, wantE := int64(0), api.ErrOverflow
		if right(x) {
			want, wantE = x*full, api.OK
		}
		got, e := frac.Of(x)
		same(t, fmt.Sprintf("Of(%d)", x), int64(got), e, want, wantE)
	}
}

// P2.2: Part; of a wrong amount and a wrong rate the amount is told first.
func TestPart(t *testing.T) {
	for _, x := range edges {
		for _, r := range edges {
			want, wantE := x*r, api.OK
			if r < 0 || r > full {
				want, wantE = 0, api.ErrRate
			}
			if !right(x) {
				want, wantE = 0, api.ErrOverflow
			}
			got, e := frac.Part(x, int(r))
			same(t, fmt.Sprintf("Part(%d, %d)", x, r), int64(got), e, want, wantE)
		}
	}
	got, e := frac.Part(250, 2000)
	same(t, "a fifth of 250", int64(got), e, 50*full, api.OK)
}

// P2.2: Add goes one by one from 0 on, so each sum on the way must be Right.
func TestAdd(t *testing.T) {
	for _, c := range []struct {
		list []frac.Exact
		want int64
		e    api.Errno
	}{
		{nil, 0, api.OK}, {[]frac.Exact{7}, 7, api.OK}, {[]frac.Exact{5, -3, 10}, 12, api.OK}, {[]frac.Exact{most, -most, most}, most, api.OK}, {[]frac.Exact{most - 1, 1}, most, api.OK}, {[]frac.Exact{-most, 0}, -most, api.OK},
		{[]frac.Exact{most, 1, -1}, 0, api.ErrOverflow}, {[]frac.Exact{-most, -1, 1}, 0, api.ErrOverflow}, {[]frac.Exact{most, most, -most}, 0, api.ErrOverflow},
		{[]frac.Exact{most + 1}, 0, api.ErrOverflow}, {[]frac.Exact{most + 1, -1}, 0, api.ErrOverflow}, {[]frac.Exact{-5, most + 1}, 0, api.ErrOverflow}, {[]frac.Exact{5, -most - 1}, 0, api.ErrOverflow},
		{[]frac.Exact{math.MinInt64, math.MinInt64}, 0, api.ErrOverflow}, {[]frac.Exact{1, math.MaxInt64, math.MaxInt64, 2}, 0, api.ErrOverflow},
	} {
		was := slices.Clone(c.list)
		got, e := frac.Add(c.list...)
		same(t, fmt.Sprintf("Add(%v)", was), int64(got), e, c.want, c.e)
		if !slices.Equal(c.list, was) { // P2 (rule 4)
			t.Errorf("Add(%v) changed its list to %v", was, c.list)
		}
	}
	for _, a := range edges {
		for _, b := range edges {
			sum := new(big.Int).Add(big.NewInt(a), big.NewInt(b))
			want, wantE := sum.Int64(), api.OK
			if !exact(a) || !exact(b) || sum.CmpAbs(big.NewInt(most)) > 0 {
				want, wantE = 0, api.ErrOverflow
			}
			got, e := frac.Add(frac.Exact(a), frac.Exact(b))
			same(t, fmt.Sprintf("Add(%d, %d)", a, b), int64(got), e, want, wantE)
		}
	}
}

// P2.3: Coins; of a wrong amount and a wrong way the amount is told first.
func TestCoins(t *testing.T) {
	list := slices.Clone(edges)
	for x := int64(-35_000); x <= 35_000; x += 500 {
		list = append(list, x-1, x, x+1)
	}
	for _, x := range list {
		for _, mode := range append(slices.Clone(modes), wrongModes...) {
			want, wantE := int64(0), api.ErrRange
			if slices.Contains(modes, mode) {
				want, wantE = rounded(big.NewInt(x), big.NewInt(full), mode), api.OK
			}
			if !exact(x) {
				want, wantE = 0, api.ErrOverflow
			}
			got, e := frac.Coins(frac.Exact(x), mode)
			same(t, fmt.Sprintf("Coins(%d, %d)", x, mode), got, e, want, wantE)
		}
	}
	got, e := frac.Coins(15_000, api.HalfEven)
	same(t, "one and a half", got, e, 2, api.OK)
}

// P2.3: Take; what is told first: the amount, the rate, the way.
func TestTake(t *testing.T) {
	for _, x := range append(slices.Clone(edges), 199, -199, 125, -125, 250) {
		for _, r := range append(slices.Clone(edges), 1000, 2000, 333) {
			for _, mode := range append(slices.Clone(modes), wrongModes...) {
				want, wantE := int64(0), api.OK
				switch {
				case !right(x):
					wantE = api.ErrOverflow
				case r < 0 || r > full:
					wantE = api.ErrRate
				case !slices.Contains(modes, mode):
					wantE = api.ErrRange
				default:
					want = rounded(new(big.Int).Mul(big.NewInt(x), big.NewInt(r)), big.NewInt(full), mode)
				}
				got, e := frac.Take(x, int(r), mode)
				same(t, fmt.Sprintf("Take(%d, %d, %d)", x, r, mode), got, e, want, wantE)
			}
		}
	}
	got, e := frac.Take(199, 1000, api.HalfUp)
	same(t, "a tenth of 199", got, e, 20, api.OK)
}

// scaled: what Scale must tell.
func scaled(x, n, d int64) (int64, api.Errno) {
	if !right(x) {
		return 0, api.ErrOverflow
	}
	if n < 0 || n > 1048576 || d < 1 || d > 1048576 {
		return 0, api.ErrRange
	}
	part := new(big.Int).Mul(big.NewInt(x), big.NewInt(n))
	part.Div(part, big.NewInt(d)) // Div goes down, as d is above 0
	if part.CmpAbs(big.NewInt(top)) > 0 {
		return 0, api.ErrOverflow
	}
	return part.Int64(), api.OK
}

// P2.4
func TestScale(t *testing.T) {
	check := func(x, n, d int64) {
		want, wantE := scaled(x, n, d)
		got, e := frac.Scale(x, n, d)
		same(t, fmt.Sprintf("Scale(%d, %d, %d)", x, n, d), got, e, want, wantE)
	}
	for _, x := range edges {
		for _, n := range edges {
			for _, d := range edges {
				check(x, n, d)
			}
		}
	}
	for x := int64(-20); x <= 20; x++ {
		for n := int64(-1); n <= 9; n++ {
			for d := int64(-1); d <= 9; d++ {
				check(x, n, d)
			}
		}
	}
	for _, c := range []struct {
		x, n, d, want int64
		e             api.Errno
	}{
		{1000, 1, 3, 333, api.OK}, {-1000, 1, 3, -334, api.OK}, {7, 0, 5, 0, api.OK}, {top, 1048576, 1048576, top, api.OK}, {-top, 1048575, 1048576, -99999904633, api.OK},
		{top, 2, 1, 0, api.ErrOverflow}, {-top, 1048576, 1048575, 0, api.ErrOverflow}, {top / 2, 2, 1, top, api.OK}, {top/2 + 1, 2, 1, 0, api.ErrOverflow}, {-top, 1048576, 1, 0, api.ErrOverflow},
		{5, -1, 1, 0, api.ErrRange}, {5, 1048577, 1048576, 0, api.ErrRange}, {5, 1, 0, 0, api.ErrRange}, {5, 1, 1048577, 0, api.ErrRange}, {5, 1, -1, 0, api.ErrRange},
		{top + 1, -1, 0, 0, api.ErrOverflow}, {top + 1, 0, 1, 0, api.ErrOverflow}, {top, 1048577, 1, 0, api.ErrRange},
	} {
		got, e := frac.Scale(c.x, c.n, c.d)
		same(t, fmt.Sprintf("Scale(%d, %d, %d)", c.x, c.n, c.d), got, e, c.want, c.e)
	}
}

// compared: what Compare must tell.
func compared(n, d, m, c int64) (int64, api.Errno) {
	if d <= 0 || c <= 0 {
		return 0, api.ErrRange
	}
	a := new(big.Int).Mul(big.NewInt(n), big.NewInt(c))
	return int64(a.Cmp(new(big.Int).Mul(big.NewInt(m), big.NewInt(d)))), api.OK
}

func checkCompare(t *testing.T, n, d, m, c int64) {
	t.Helper()
	want, wantE := compared(n, d, m, c)
	got, e := frac.Compare(n, d, m, c)
	if int64(got) != want || e != wantE {
		t.Errorf("Compare(%d, %d, %d, %d): %d, %v, not %d, %v", n, d, m, c, got, e, want, wantE)
	}
}

// P2.5: Compare, of any numbers: products need not be ones of 64 bits.
func TestCompare(t *testing.T) {
	some := []int64{math.MinInt64, math.MinInt64 + 1, -1 << 62, -1<<32 - 1, -3, -2, -1, 0, 1, 2, 3, 6, 1 << 32, 1<<32 + 1, 1 << 62, 1<<62 + 1, math.MaxInt64 - 2, math.MaxInt64 - 1, math.MaxInt64}
	for _, n := range some {
		for _, d := range some {
			for _, m := range some {
				for _, c := range some {
					checkCompare(t, n, d, m, c)
				}
			}
		}
	}
	for n := int64(-7); n <= 7; n++ {
		for d := int64(-1); d <= 7; d++ {
			for m := int64(-7); m <= 7; m++ {
				for c := int64(-1); c <= 7; c++ {
					checkCompare(t, n, d, m, c)
				}
			}
		}
	}
	for _, c := range []struct {
		n, d, m, c int64
		want       int
	}{
		{1 << 62, 3, 1 << 62, 4, 1}, {math.MaxInt64 - 1, math.MaxInt64, math.MaxInt64 - 2, math.MaxInt64 - 1, 1}, {math.MinInt64, math.MaxInt64, -1, 1, -1}, {2, 4, 3, 6, 0}, {-2, 4, -3, 6, 0}, {0, 5, 0, 7, 0}, {-1, 2, 1, 2, -1}, {0, 1, -1, 9, 1},
	} {
		if got, e := frac.Compare(c.n, c.d, c.m, c.c); got != c.want || e != api.OK {
			t.Errorf("Compare(%d, %d, %d, %d): %d, %v", c.n, c.d, c.m, c.c, got, e)
		}
	}
}

func checkLowest(t *testing.T, n, d int64) {
	t.Helper()
	want, wantD, wantE := int64(0), int64(0), api.ErrRange
	if d > 0 {
		r := big.NewRat(n, d)
		want, wantD, wantE = r.Num().Int64(), r.Denom().Int64(), api.OK
	}
	got, gotD, e := frac.Lowest(n, d)
	if got != want || gotD != wantD || e != wantE {
		t.Errorf("Lowest(%d, %d): %d, %d, %v, not %d, %d, %v", n, d, got, gotD, e, want, wantD, wantE)
	}
}

// P2.5: Lowest.
func TestLowest(t *testing.T) {
	for _, n := range edges {
		for _, d := range edges {
			checkLowest(t, n, d)
		}
	}
	for n := int64(-40); n <= 40; n++ {
		for d := int64(-3); d <= 40; d++ {
			checkLowest(t, n, d)
		}
	}
	for _, c := range []struct{ n, d, want, wantD int64 }{
		{-6, 4, -3, 2}, {6, 4, 3, 2}, {0, 9, 0, 1}, {5, 5, 1, 1}, {7, 3, 7, 3}, {math.MinInt64, 1 << 62, -2, 1}, {math.MinInt64, 1, math.MinInt64, 1}, {math.MaxInt64, math.MaxInt64, 1, 1},
	} {
		if n, d, e := frac.Lowest(c.n, c.d); n != c.want || d != c.wantD || e != api.OK {
			t.Errorf("Lowest(%d, %d): %d, %d, %v", c.n, c.d, n, d, e)
		}
	}
}
