package piece_test

import (
	"fmt"
	"math"
	"math/big"
	"math/rand"
	"slices"
	"strings"
	"testing"

	"stipend/api"
	"stipend/frac"
	"stipend/piece"
)

// The document's limits.
const (
	top      = 10_000_000_000
	most     = 256
	steepest = 40_000
	farthest = 4_000_000_000_000_000
	longest  = 64 * most
)

// edges: numbers at which something may go over.
var edges = []int64{
	math.MinInt64, math.MinInt64 + 1, -1 << 62, -farthest - 1, -farthest, -10 * top, -top, -steepest - 1, -steepest, -2, -1, 0, 1, 2, 3, 9, 10, 11,
	9999, 10000, 10001, steepest, steepest + 1, top - 1, top, top + 1, 10 * top, farthest, farthest + 1, 1 << 62, math.MaxInt64 - 1, math.MaxInt64,
}

// value: that of a function at a number, by the last piece that begins no later; in big numbers, so that nothing wraps round.
func value(f piece.Func, x int64) *big.Int {
	sum := new(big.Int)
	for _, l := range f {
		if l.From <= x {
			far := new(big.Int).Sub(big.NewInt(x), big.NewInt(l.From))
			sum = far.Mul(far, big.NewInt(int64(l.Rate)))
			sum.Add(sum, big.NewInt(int64(l.Value)))
		}
	}
	return sum
}

// at: likewise, of a function, where nothing wraps round.
func at(f piece.Func, x int64) frac.Exact {
	sum := frac.Exact(0)
	for _, l := range f {
		if l.From <= x {
			sum = l.Value + frac.Exact(x-l.From)*frac.Exact(l.Rate)
		}
	}
	return sum
}

// check: the document's words of what a function is, one by one.
func check(f piece.Func) api.Errno {
	if len(f) == 0 || len(f) > most {
		return api.ErrLong
	}
	for i, l := range f {
		switch {
		case l.From < 0, l.From > top, i == 0 && l.From != 0:
			return api.ErrRange
		case i > 0 && f[i-1].From >= l.From:
			return api.ErrOrder
		case l.Rate < -steepest, l.Rate > steepest:
			return api.ErrRate
		}
	}
	for i, l := range f {
		last := int64(top)
		if i+1 < len(f) {
			last = f[i+1].From - 1
		}
		for _, x := range []int64{l.From, last} {
			if v := value(f, x); v.CmpAbs(big.NewInt(farthest)) > 0 {
				return api.ErrOverflow
			}
		}
	}
	return api.OK
}

// zigzag: a function of so many pieces, one number each but the last one, of which none goes on as the one ahead does.
func zigzag(n int) piece.Func {
	var f piece.Func
	for i := range n {
		f = append(f, piece.Line{From: int64(i), Value: frac.Exact(i % 2), Rate: i%3 - 1})
	}
	return f
}

// chance: a function, the same at each run: with jumps and without, steep and flat, of short pieces and of long ones.
func chance(r *rand.Rand) piece.Func {
	widest := []int64{1, 2, 10, 1000, top / 4}[r.Intn(5)]
	rate := []int{1, 5, 10000, steepest}[r.Intn(4)]
	f := piece.Func{{Value: frac.Exact(r.Int63n(201) - 100), Rate: r.Intn(2*rate+1) - rate}}
	for n := r.Intn(8); n > 0; n-- {
		from := f[len(f)-1].From + 1 + r.Int63n(widest)
		if from > top {
			break
		}
		l := piece.Line{From: from, Value: at(f, from), Rate: r.Intn(2*rate+1) - rate}
		if r.Intn(4) == 0 {
			l.Value += frac.Exact(r.Intn(2*rate+1) - rate)
		}
		if r.Intn(6) == 0 {
			l.Rate = f[len(f)-1].Rate
		}
		f = append(f, l)
	}
	if r.Intn(10) == 0 && f[len(f)-1].From < top {
		f = append(f, piece.Line{From: top, Value: at(f, top) + frac.Exact(r.Intn(3)-1), Rate: r.Intn(2*rate+1) - rate})
	}
	return f
}

// rising: likewise, but one that doesn't fall.
func rising(r *rand.Rand) piece.Func {
	f := chance(r)
	for i := range f {
		f[i].Rate = max(f[i].Rate, -f[i].Rate)
		if r.Intn(3) == 0 {
			f[i].Rate = 0
		}
		if i > 0 {
			ahead := at(f[:i], f[i].From-1)
			f[i].Value = ahead + frac.Exact(r.Intn(3)*r.Intn(20000))
		}
	}
	return f
}

// looks: the numbers at which functions are looked at: all that are near to where a piece begins, to where two of them cross, and some by chance.
func looks(r *rand.Rand, list ...piece.Func) []int64 {
	near := []int64{0, 1, 2, 3, 5, 10, 30, 100, top / 2, top - 2, top - 1, top}
	for _, f := range list {
		for _, l := range f {
			near = append(near, l.From-2, l.From-1, l.From, l.From+1, l.From+2)
		}
	}
	for range 20 {
		near = append(near, r.Int63n(top+1), r.Int63n(1000), r.Int63n(30))
	}
	var all []int64
	for _, x := range near {
		if x >= 0 && x <= top {
			all = append(all, x)
		}
	}
	return all
}

// joined: does no piece go on as the one ahead of it does?
func joined(f piece.Func) bool {
	for i, l := range f {
		if i > 0 && l.Rate == f[i-1].Rate && at(f[:i], l.From) == l.Value {
			return false
		}
	}
	return true
}

// wrong: functions that are none, and why.
func wrong() map[api.Errno][]piece.Func {
	far := frac.Exact(farthest)
	return map[api.Errno][]piece.Func{
		api.ErrLong: {nil, {}, zigzag(most + 1), append(zigzag(most), piece.Line{From: -1, Rate: steepest + 1})},
		api.ErrRange: {
			{{From: 1}}, {{From: -1}}, {{From: top + 1}}, {{}, {From: -1}}, {{}, {From: top + 1}}, {{}, {From: math.MaxInt64}}, {{}, {From: math.MinInt64}},
			{{From: 1, Rate: steepest + 1}}, {{}, {From: -1, Rate: steepest + 1}}, {{Value: far + 1}, {From: -1}}, {{}, {From: -1}, {From: -1, Rate: steepest + 1}},
		},
		api.ErrOrder: {
			{{}, {}}, {{}, {From: 5}, {From: 5}}, {{}, {From: 5}, {From: 4}}, {{}, {From: 0, Rate: steepest + 1}}, {{Value: far + 1}, {From: 0}},
			{{}, {From: 5}, {From: 5}, {From: -1}}, {{}, {From: 5}, {From: 5}, {From: 6, Rate: steepest + 1}},
		},
		api.ErrRate: {
			{{Rate: steepest + 1}}, {{Rate: -steepest - 1}}, {{Rate: math.MinInt}}, {{Rate: math.MaxInt}}, {{}, {From: 5, Rate: steepest + 1}},
			{{Rate: steepest + 1}, {From: -1}}, {{Rate: steepest + 1}, {}}, {{Value: far + 1, Rate: steepest + 1}}, {{Value: far + 1}, {From: 1, Rate: -steepest - 1}},
			{{}, {From: top, Rate: steepest + 1}},
		},
		api.ErrOverflow: {
			{{Value: far + 1}}, {{Value: -far - 1}}, {{Value: math.MinInt64}}, {{Value: math.MaxInt64}}, {{Value: far, Rate: 1}}, {{Value: -far, Rate: -1}},
			{{Value: far - top + 1, Rate: 1}}, {{}, {From: 9, Value: far + 1}, {From: 10}}, {{Value: far - 4, Rate: 1}, {From: 6}},
			{{Value: math.MinInt64, Rate: -1}}, {{Value: far + 1, Rate: -1}}, {{}, {From: top, Value: far + 1}},
		},
	}
}

// right: functions at the edges.
func right() []piece.Func {
	far := frac.Exact(farthest)
	return []piece.Func{
		{{}}, {{Rate: steepest}}, {{Rate: -steepest}}, {{Value: far}}, {{Value: -far}}, {{Value: far, Rate: -1}}, {{Value: far - top, Rate: 1}},
		{{Value: -far, Rate: steepest}}, {{Value: -far + top, Rate: -1}}, {{}, {From: 1}}, {{}, {From: top}}, {{}, {From: top, Value: far, Rate: steepest}},
		{{}, {From: top, Value: -far, Rate: -steepest}}, {{Value: far - 5, Rate: 1}, {From: 6}}, {{Value: far}, {From: 1, Value: -far}}, zigzag(1), zigzag(2), zigzag(most),
	}
}

// P25.1: the limits are the document's.
func TestLimits(t *testing.T) {
	if piece.Top != top || piece.Most != most {
		t.Errorf("Top %d, Most %d", int64(piece.Top), piece.Most)
	}
}

// P25.1: what is a function, and what isn't, by the error that is named first.
func TestCheck(t *testing.T) {
	for e, list := range wrong() {
		for _, f := range list {
			if got := piece.Check(f); got != e {
				t.Errorf("Check(%v): %v, not %v", f, got, e)
			}
		}
	}
	for _, f := range right() {
		if e := piece.Check(f); e != api.OK {
			t.Errorf("Check(%v): %v", f, e)
		}
	}
	r := rand.New(rand.NewSource(1))
	seen := map[api.Errno]int{}
	for range 100000 {
		f := chance(r)
		for n := r.Intn(3); n > 0; n-- {
			l := &f[r.Intn(len(f))]
			switch r.Intn(3) {
			case 0:
				l.From = edges[r.Intn(len(edges))]
			case 1:
				l.Rate = int(edges[r.Intn(len(edges))])
			default:
				l.Value = frac.Exact(edges[r.Intn(len(edges))])
			}
		}
		want := check(f)
		if e := piece.Check(f); e != want {
			t.Fatalf("Check(%v): %v, not %v", f, e, want)
		}
		seen[want]++
	}
	for _, e := range []api.Errno{api.OK, api.ErrRange, api.ErrOrder, api.ErrRate, api.ErrOverflow} {
		if seen[e] < 100 {
			t.Errorf("%v was seen %d times only", e, seen[e])
		}
	}
}

// P25.2: the piece in which a number is: the last one that doesn't begin above it.
func TestFind(t *testing.T) {
	f := piece.Func{{}, {From: 10}, {From: 11}, {From: top}}
	for x, want := range map[int64]int{math.MinInt64: 0, -1: 0, 0: 0, 9: 0, 10: 1, 11: 2, 12: 2, top - 1: 2, top: 3, top + 1: 3, math.MaxInt64: 3} {
		if got := f.Find(x); got != want {
			t.Errorf("Find(%d): %d, not %d", x, got, want)
		}
	}
	if got := (piece.Func{}).Find(5); got != 0 {
		t.Errorf("Find of no piece: %d", got)
	}
	f = zigzag(most)
	for i := range most {
		if got := f.Find(int64(i)); got != i {
			t.Errorf("Find(%d): %d", i, got)
		}
	}
}

// P25.2: the value at a number; what is no function, and what is no number of it.
func TestAt(t *testing.T) {
	f := piece.Func{{Value: 7, Rate: 2}, {From: 10, Value: -5, Rate: -3}, {From: top, Value: 9, Rate: 1}}
	for x, want := range map[int64]frac.Exact{0: 7, 1: 9, 9: 25, 10: -5, 11: -8, top - 1: -5 - 3*(top-11), top: 9} {
		if got, e := f.At(x); got != want || e != api.OK {
			t.Errorf("At(%d): %d %v, not %d", x, got, e, want)
		}
	}
	for _, x := range []int64{math.MinInt64, -1, top + 1, math.MaxInt64} {
		if got, e := f.At(x); got != 0 || e != api.ErrRange {
			t.Errorf("At(%d): %d %v", x, got, e)
		}
	}
	for want, list := range wrong() {
		for _, f := range list {
			for _, x := range []int64{-1, 0, 1, top + 1} {
				if got, e := f.At(x); got != 0 || e != want {
					t.Errorf("%v.At(%d): %d %v, not %v", f, x, got, e, want)
				}
			}
		}
	}
	r := rand.New(rand.NewSource(2))
	for _, f := range append(right(), chance(r), chance(r), chance(r), chance(r)) {
		for _, x := range looks(r, f) {
			if got, e := f.At(x); got != at(f, x) || e != api.OK {
				t.Errorf("%v.At(%d): %d %v", f, x, got, e)
			}
		}
	}
}

// P25.3: one piece; and what is 0 up to a number, and goes on from there.
func TestStraightCorner(t *testing.T) {
	for _, x := range edges {
		f := piece.Straight(frac.Exact(x), int(-x))
		if len(f) != 1 || f[0] != (piece.Line{Value: frac.Exact(x), Rate: int(-x)}) {
			t.Errorf("Straight(%d): %v", x, f)
		}
	}
	for _, corner := range []int64{-10 * top, -10*top + 1, -top - 1, -2, -1, 0, 1, 2, 10, 999, top - 1, top, top + 1, 10 * top, 10*top + 1, math.MaxInt64} {
		for _, rate := range []int{0, 1, 3, 5000, 10000} {
			f := piece.Corner(corner, rate)
			if e := piece.Check(f); e != api.OK || len(f) > 2 || len(f) == 2 && f[1].From != corner {
				t.Errorf("Corner(%d, %d): %v %v", corner, rate, f, e)
			}
			for _, x := range looks(rand.New(rand.NewSource(3)), f) {
				far := new(big.Int).Sub(big.NewInt(x), big.NewInt(corner))
				if far.Sign() < 0 {
					far.SetInt64(0)
				}
				if far.Mul(far, big.NewInt(int64(rate))); far.Cmp(value(f, x)) != 0 {
					t.Errorf("Corner(%d, %d) at %d: %v, not %v", corner, rate, x, value(f, x), far)
				}
			}
		}
	}
}

// P25.4: at each number both values, or the one less the other one, or the one alone; alike pieces are one.
func TestAdd(t *testing.T) {
	r := rand.New(rand.NewSource(4))
	refused := 0
	for range 20000 {
		f, g, times := chance(r), chance(r), r.Intn(3)-1
		sum, e := piece.Add(f, g, times)
		if e != api.OK {
			if e != api.ErrRate || sum != nil {
				t.Fatalf("Add(%v, %v, %d): %v %v", f, g, times, sum, e)
			}
			refused++
			continue
		}
		if piece.Check(sum) != api.OK || !joined(sum) {
			t.Fatalf("Add(%v, %v, %d): %v", f, g, times, sum)
		}
		for _, x := range looks(r, f, g, sum) {
			if want := at(f, x) + frac.Exact(times)*at(g, x); at(sum, x) != want {
				t.Fatalf("Add(%v, %v, %d): %v, at %d not %d", f, g, times, sum, x, want)
			}
		}
	}
	if refused < 100 || refused > 10000 {
		t.Errorf("refused %d times", refused)
	}
}

// P25.4: what both come to may be no function: too many pieces, too steep, or too far from 0; and what is told first.
func TestAddRefuses(t *testing.T) {
	far, good := frac.Exact(farthest), piece.Straight(0, 0)
	for _, c := range []struct {
		f, g  piece.Func
		times int
		want  api.Errno
	}{
		{good, good, 2, api.ErrRange}, {good, good, -2, api.ErrRange}, {good, good, math.MinInt, api.ErrRange}, {good, good, math.MaxInt, api.ErrRange},
		{piece.Straight(far, 0), piece.Straight(1, 0), 1, api.ErrOverflow}, {piece.Straight(far, 0), piece.Straight(1, 0), -1, api.OK},
		{piece.Straight(-far, 0), piece.Straight(1, 0), -1, api.ErrOverflow}, {piece.Straight(far, 0), piece.Straight(1, 0), 0, api.OK},
		{piece.Straight(far, 0), piece.Straight(far, 0), 1, api.ErrOverflow}, {piece.Straight(far, 0), piece.Straight(far, 0), -1, api.OK},
		{piece.Straight(0, steepest), piece.Straight(0, 1), 1, api.ErrRate}, {piece.Straight(0, steepest), piece.Straight(0, 1), -1, api.OK},
		{piece.Straight(0, -steepest), piece.Straight(0, 1), -1, api.ErrRate}, {piece.Straight(0, -steepest), piece.Straight(0, 1), 1, api.OK},
		{piece.Straight(far, -1), piece.Straight(1, 0), 1, api.ErrOverflow}, {piece.Straight(far-top, 1), piece.Straight(1, 0), 1, api.ErrOverflow},
		{piece.Straight(far, 0), piece.Func{{}, {From: 5, Value: 1, Rate: steepest}}, 1, api.ErrOverflow},
		{zigzag(most), good, 1, api.OK}, {zigzag(most), piece.Corner(most+5, 1), 1, api.ErrLong}, {good, zigzag(most), -1, api.OK},
		{zigzag(most), piece.Corner(most+5, 1), 0, api.OK}, {zigzag(most - 1), piece.Corner(most+5, 1), -1, api.OK},
		{zigzag(most), zigzag(most), -1, api.OK}, {zigzag(most), zigzag(most), 1, api.OK}, {zigzag(most), piece.Func{{Rate: steepest}, {From: 999}}, 1, api.ErrLong},
	} {
		sum, e := piece.Add(c.f, c.g, c.times)
		if e != c.want || (sum == nil) != (e != api.OK) {
			t.Errorf("Add(%v, %v, %d): %v %v, not %v", c.f, c.g, c.times, sum, e, c.want)
		}
	}
	if sum, e := piece.Add(zigzag(most), zigzag(most), -1); len(sum) != 1 || sum[0] != (piece.Line{}) || e != api.OK {
		t.Errorf("a function less itself: %v %v", sum, e)
	}
}

// P25.4, P25.5, P25.7: the first one's error is told ahead of the second one's, and both ahead of all else.
func TestPairsOfWrong(t *testing.T) {
	good := piece.Straight(1, 1)
	for want, list := range wrong() {
		for _, f := range list {
			for other, more := range wrong() {
				g := more[0]
				for name, call := range map[string]func(f, g piece.Func) (piece.Func, api.Errno){
					"Add":      func(f, g piece.Func) (piece.Func, api.Errno) { return piece.Add(f, g, 1) },
					"no times": func(f, g piece.Func) (piece.Func, api.Errno) { return piece.Add(f, g, 9) },
					"Least":    piece.Least, "Greatest": piece.Greatest,
				} {
					if got, e := call(f, g); got != nil || e != want {
						t.Errorf("%s(%v, %v): %v %v, not %v", name, f, g, got, e, want)
					}
					if got, e := call(g, f); got != nil || e != other {
						t.Errorf("%s(%v, %v): %v %v, not %v", name, g, f, got, e, other)
					}
					if got, e := call(good, f); got != nil || e != want {
						t.Errorf("%s(%v, %v): %v %v, not %v", name, good, f, got, e, want)
					}
				}
			}
			for _, by := range []int64{-1, 0, 1, top + 1} {
				if got, e := piece.Shift(f, by); got != nil || e != want {
					t.Errorf("Shift(%v, %d): %v %v, not %v", f, by, got, e, want)
				}
			}
			if piece.Same(f, f) || piece.Same(f, good) || piece.Same(good, f) {
				t.Errorf("Same of %v", f)
			}
			if x, n, ok := f.Reach(0); x != 0 || n != 0 || ok {
				t.Errorf("%v.Reach: %d %d %v", f, x, n, ok)
			}
			if got := piece.Text(f); got != "" {
				t.Errorf("Text(%v): %q", f, got)
			}
		}
	}
}

// P25.5: the document's example, and what crosses at a number, between two, or not at all.
func TestLeastExample(t *testing.T) {
	corner, seven := piece.Corner(10, 3), piece.Straight(7, 0)
	if y, e := corner.At(12); y != 6 || e != api.OK {
		t.Errorf("At(12): %d %v", y, e)
	}
	least, e := piece.Least(corner, seven)
	if y, f := least.At(13); e != api.OK || y != 7 || f != api.OK {
		t.Errorf("Least: %v %v", least, e)
	}
	if y, _ := least.At(12); y != 6 || len(least) != 3 || least[2] != (piece.Line{From: 13, Value: 7}) {
		t.Errorf("Least: %v", least)
	}
	if x, n, ok := least.Reach(7); x != 13 || n != 3 || !ok {
		t.Errorf("Reach(7): %d %d %v", x, n, ok)
	}
	if x, n, ok := corner.Reach(7); x != 13 || n != 2 || !ok {
		t.Errorf("Reach(7) of the corner: %d %d %v", x, n, ok)
	}
	if x, n, ok := least.Reach(8); x != 0 || n != 3 || ok {
		t.Errorf("Reach(8): %d %d %v", x, n, ok)
	}
}

// P25.5: at each number the lesser value, and the greater one; alike pieces are one.
func TestLeastGreatest(t *testing.T) {
	r := rand.New(rand.NewSource(5))
	for range 20000 {
		f, g := chance(r), chance(r)
		if r.Intn(4) == 0 {
			g[0].Value = f[0].Value
		}
		least, e := piece.Least(f, g)
		greatest, d := piece.Greatest(f, g)
		if e != api.OK || d != api.OK || !joined(least) || !joined(greatest) {
			t.Fatalf("Least, Greatest of %v, %v: %v %v, %v %v", f, g, least, e, greatest, d)
		}
		for _, x := range looks(r, f, g, least, greatest) {
			lower, upper := min(at(f, x), at(g, x)), max(at(f, x), at(g, x))
			if at(least, x) != lower || at(greatest, x) != upper {
				t.Fatalf("%v, %v: %v, %v, at %d not %d and %d", f, g, least, greatest, x, lower, upper)
			}
		}
	}
}

// P25.5: what has too many pieces then is no function; at the farthest values nothing wraps round.
func TestLeastEdges(t *testing.T) {
	far := frac.Exact(farthest)
	// Each piece crosses 0 once, and jumps back.
	var saw piece.Func
	for i := range most {
		saw = append(saw, piece.Line{From: int64(10 * i), Value: -5, Rate: 2})
	}
	saw[most-1].Rate = 0
	for n, want := range map[int]api.Errno{128: api.OK, 129: api.ErrLong, most: api.ErrLong} {
		f := append(slices.Clone(saw[:n-1]), saw[most-1])
		f[n-1].From = int64(10 * (n - 1))
		for name, call := range map[string]func(f, g piece.Func) (piece.Func, api.Errno){"Least": piece.Least, "Greatest": piece.Greatest} {
			got, e := call(f, piece.Straight(0, 0))
			if e != want || len(got) != map[api.Errno]int{api.OK: 2*n - 1}[e] {
				t.Errorf("%s of %d pieces: %d, %v, not %v", name, n, len(got), e, want)
			}
		}
	}
	for _, c := range [][2]piece.Func{
		{{{Value: far}}, {{Value: -far}}},
		{{{Value: -far, Rate: steepest}}, {{Value: -far + top*steepest, Rate: -steepest}}},
		{{{Value: far, Rate: -steepest}}, {{Value: far - top*steepest, Rate: steepest}}},
		{{{Value: far, Rate: -1}}, {{Value: far - 1}}},
		{{{Rate: 1}}, {{Value: top}}}, {{{Rate: 1}}, {{Value: top - 1}}}, {{{Rate: 1}}, {{Value: top + 1}}}, {{{Rate: 1}}, {{}}}, {{{Rate: 1}}, {{Value: 1}}},
	} {
		least, e := piece.Least(c[0], c[1])
		greatest, d := piece.Greatest(c[1], c[0])
		if e != api.OK || d != api.OK {
			t.Fatalf("%v: %v %v", c, e, d)
		}
		for _, x := range looks(rand.New(rand.NewSource(6)), least, greatest) {
			if a, b := at(c[0], x), at(c[1], x); at(least, x) != min(a, b) || at(greatest, x) != max(a, b) {
				t.Errorf("%v: %v, %v at %d", c, least, greatest, x)
			}
		}
	}
}

// P25.6: whether a number has a lesser value than the one ahead of it.
func TestFalls(t *testing.T) {
	for _, c := range []struct {
		f    piece.Func
		want bool
	}{
		{piece.Straight(5, 0), false}, {piece.Straight(5, 1), false}, {piece.Straight(5, -1), true},
		{piece.Func{{}, {From: 5, Value: -1}}, true}, {piece.Func{{}, {From: 5, Value: 1}}, false}, {piece.Func{{Rate: 2}, {From: 5, Value: 8}}, false},
		{piece.Func{{Rate: 2}, {From: 5, Value: 7}}, true}, {piece.Func{{Rate: -2}, {From: 1}}, false}, {piece.Func{{Rate: -2}, {From: 2}}, true},
		{piece.Func{{}, {From: 5, Rate: -9}, {From: 6, Value: 0}}, false}, {piece.Func{{}, {From: 5, Rate: 9}, {From: 6, Value: -1}}, true},
		{piece.Func{{}, {From: top, Rate: -9}}, false}, {piece.Func{{}, {From: top - 1, Rate: -9}}, true}, {piece.Func{{}, {From: top, Value: -1}}, true},
		{piece.Func{{}, {From: 1, Rate: 9}, {From: 9, Rate: -1, Value: 99}}, true},
	} {
		if got := c.f.Falls(); got != c.want {
			t.Errorf("%v.Falls: %v", c.f, got)
		}
	}
	r := rand.New(rand.NewSource(7))
	seen := map[bool]int{}
	for range 20000 {
		f := chance(r)
		if r.Intn(2) == 0 {
			f = rising(r)
		}
		want := false
		for _, l := range f {
			for _, x := range []int64{l.From, l.From + 1} {
				want = want || x > 0 && x <= top && at(f, x) < at(f, x-1)
			}
		}
		if got := f.Falls(); got != want {
			t.Fatalf("%v.Falls: %v", f, got)
		}
		seen[want]++
	}
	if seen[true] < 1000 || seen[false] < 1000 {
		t.Errorf("seen: %v", seen)
	}
}

// P25.6: the least number whose value is no less, and how many pieces were looked at up to its own.
func TestReach(t *testing.T) {
	r := rand.New(rand.NewSource(8))
	seen := map[bool]int{}
	for range 10000 {
		f := rising(r)
		ys := []frac.Exact{math.MinInt64, -farthest, 0, at(f, top), at(f, top) + 1, farthest, farthest + 1, math.MaxInt64}
		for _, x := range looks(r, f) {
			ys = append(ys, at(f, x)-1, at(f, x), at(f, x)+1)
		}
		for _, y := range ys {
			x, n, ok := f.Reach(y)
			if !ok {
				if x != 0 || n != len(f) || at(f, top) >= y {
					t.Fatalf("%v.Reach(%d): %d %d %v", f, y, x, n, ok)
				}
			} else if x < 0 || x > top || at(f, x) < y || x > 0 && at(f, x-1) >= y || n != piecesUpto(f, x) {
				t.Fatalf("%v.Reach(%d): %d %d %v", f, y, x, n, ok)
			}
			seen[ok]++
		}
	}
	if seen[true] < 1000 || seen[false] < 1000 {
		t.Errorf("seen: %v", seen)
	}
}

// piecesUpto: how many pieces there are, up to that in which a number is.
func piecesUpto(f piece.Func, x int64) int {
	n := 0
	for _, l := range f {
		if l.From <= x {
			n++
		}
	}
	return n
}

// P25.7: at each number the value so many numbers on; the last piece goes on.
func TestShift(t *testing.T) {
	r := rand.New(rand.NewSource(9))
	for range 10000 {
		f := chance(r)
		for _, by := range []int64{0, 1, 2, r.Int63n(30), r.Int63n(top + 1), f[len(f)-1].From, top - 1, top} {
			got, e := piece.Shift(f, by)
			if e != api.OK || piece.Check(got) != api.OK || !joined(got) {
				t.Fatalf("Shift(%v, %d): %v %v", f, by, got, e)
			}
			for _, x := range looks(r, f, got) {
				if want := at(f, x+by); at(got, x) != want {
					t.Fatalf("Shift(%v, %d): %v, at %d not %d", f, by, got, x, want)
				}
			}
		}
	}
	for _, by := range []int64{math.MinInt64, -1, top + 1, math.MaxInt64} {
		if got, e := piece.Shift(piece.Straight(farthest, 0), by); got != nil || e != api.ErrRange {
			t.Errorf("Shift by %d: %v %v", by, got, e)
		}
	}
	rises := piece.Straight(farthest-top, 1)
	if got, e := piece.Shift(rises, 0); e != api.OK || !piece.Same(got, rises) {
		t.Errorf("Shift by 0: %v %v", got, e)
	}
	if got, e := piece.Shift(rises, 1); got != nil || e != api.ErrOverflow {
		t.Errorf("Shift beyond the most: %v %v", got, e)
	}
}

// P25.7: the greatest rate and the least one of pieces that have more than one number.
func TestSteepest(t *testing.T) {
	for _, c := range []struct {
		f               piece.Func
		greatest, least int
	}{
		{piece.Straight(5, 0), 0, 0}, {piece.Straight(5, 7), 7, 7}, {piece.Straight(5, -7), -7, -7}, {piece.Straight(0, steepest), steepest, steepest},
		{piece.Straight(0, -steepest), -steepest, -steepest}, {piece.Corner(5, 3), 3, 0}, {piece.Corner(1, 3), 3, 3}, {piece.Corner(top, 3), 0, 0}, {piece.Corner(top-1, 3), 3, 0},
		{piece.Func{{Rate: 1}, {From: 5, Rate: 9}, {From: 6, Rate: 2}, {From: 8, Rate: -9}, {From: 9, Rate: 3}}, 3, 1},
		{piece.Func{{Rate: 1}, {From: 5, Rate: 9}, {From: 7, Rate: 2}, {From: 8, Rate: -9}, {From: 10, Rate: 3}}, 9, -9},
	} {
		if greatest, least := c.f.Steepest(); greatest != c.greatest || least != c.least {
			t.Errorf("%v.Steepest: %d %d", c.f, greatest, least)
		}
	}
}

// P25.7: whether two functions have the same value at each number, however they are cut.
func TestSame(t *testing.T) {
	r := rand.New(rand.NewSource(10))
	for range 5000 {
		f := chance(r)
		if cut := cutUp(r, f); !piece.Same(f, cut) || !piece.Same(cut, f) {
			t.Fatalf("%v, %v aren't the same", f, cut)
		}
		g := slices.Clone(f)
		g[r.Intn(len(g))].Value++
		if piece.Same(f, g) || piece.Same(g, f) {
			t.Fatalf("%v, %v are the same", f, g)
		}
		g = slices.Clone(f)
		i := r.Intn(len(g))
		g[i].Rate += 1 - 2*r.Intn(2)
		want := i+1 < len(f) && f[i+1].From == f[i].From+1 || f[i].From == top
		if check(g) == api.OK && (piece.Same(f, g) != want || piece.Same(g, f) != want) {
			t.Fatalf("%v, %v are the same: %v", f, g, !want)
		}
		all := chance(r)
		want = true
		for _, x := range looks(r, f, all) {
			want = want && at(f, x) == at(all, x)
		}
		if piece.Same(f, all) != want {
			t.Fatalf("%v, %v are the same: %v", f, all, !want)
		}
	}
}

// P25.7: what is the same at some numbers alone isn't the same.
func TestSameSomewhere(t *testing.T) {
	rises := piece.Straight(0, 1)
	for _, f := range []piece.Func{
		piece.Straight(0, 0), piece.Straight(top, 0), piece.Straight(5, 0), piece.Corner(1, 1), {{Rate: 1}, {From: 5, Value: 5}}, {{Rate: 1}, {From: top, Value: top + 1}},
		{{Value: 1}, {From: 2, Value: 2, Rate: 1}}, {{Value: 1}, {From: 1, Value: 1, Rate: 1}},
	} {
		if piece.Same(f, rises) || piece.Same(rises, f) {
			t.Errorf("%v and %v are the same", f, rises)
		}
	}
	if last := (piece.Func{{Rate: 1}, {From: 5, Value: 5, Rate: 1}, {From: top, Value: top, Rate: 9}}); !piece.Same(last, rises) {
		t.Errorf("%v and %v aren't the same", last, rises)
	}
}

// cutUp: the same function in more pieces.
func cutUp(r *rand.Rand, f piece.Func) piece.Func {
	froms := []int64{r.Int63n(top + 1), r.Int63n(20), r.Int63n(1000)}
	for _, l := range f {
		froms = append(froms, l.From)
	}
	slices.Sort(froms)
	var cut piece.Func
	for _, x := range slices.Compact(froms) {
		cut = append(cut, piece.Line{From: x, Value: at(f, x), Rate: f[piecesUpto(f, x)-1].Rate})
	}
	return cut
}

// P25.8: how a function is written, and that it is read again.
func TestText(t *testing.T) {
	for want, f := range map[string]piece.Func{
		"0 0 0":                   piece.Straight(0, 0),
		"0 0 0,10 0 3":            piece.Corner(10, 3),
		"0 -5 -40000":             piece.Straight(-5, -steepest),
		"0 4000000000000000 -1":   piece.Straight(farthest, -1),
		"0 -4000000000000000 1":   piece.Straight(-farthest, 1),
		"0 1 2,10000000000 -3 -4": {{Value: 1, Rate: 2}, {From: top, Value: -3, Rate: -4}},
		"0 0 0,1 0 0":             {{}, {From: 1}},
	} {
		if got := piece.Text(f); got != want {
			t.Errorf("Text(%v): %q, not %q", f, got, want)
		}
		if got, e := piece.Parse(want); !slices.Equal(got, f) || e != api.OK {
			t.Errorf("Parse(%q): %v %v", want, got, e)
		}
	}
	r := rand.New(rand.NewSource(11))
	list := right()
	for range 1000 {
		list = append(list, chance(r))
	}
	for _, f := range list {
		var parts []string
		for _, l := range f {
			parts = append(parts, fmt.Sprintf("%d %d %d", l.From, l.Value, l.Rate))
		}
		want := strings.Join(parts, ",")
		if got := piece.Text(f); got != want {
			t.Errorf("Text(%v): %q", f, got)
		}
		if got, e := piece.Parse(want); !slices.Equal(got, f) || e != api.OK {
			t.Errorf("Parse(%q): %v %v", want, got, e)
		}
	}
}

// P25.8: texts that are no function, by the error that is told first.
func TestParseRefuses(t *testing.T) {
	long := strings.Repeat("9", 16)
	for want, list := range map[api.Errno][]string{
		api.ErrForm: {
			"", ",", " ", "0", "0 0", "0 0 0 0", "0 0 0 ", " 0 0 0", "0  0 0", "0 0 0,", ",0 0 0", "0 0 0,,1 0 0", "0 0 0, 1 0 0", "0 0 0 ,1 0 0", "0,0,0",
			"0 00 0", "0 01 0", "0 -0 0", "0 -01 0", "0 0 -0", "-0 0 0", "00 0 0", "0 +1 0", "0 - 0", "0 -- 0", "0 --1 0", "0 1- 0", "0 a 0", "0 1a 0", "0 0x1 0",
			"0 1_0 0", "0 1.0 0", "0 1e3 0", "0 " + long + "9 0", "0 -" + long + "9 0", "0 0 " + long + "9", long + "9 0 0", "0 ١ 0", "0\t0 0", "0 0\n0", "0 0 0\n", "0 0 0;1 0 0",
			"0 0 0,5 0 x,6 0 40001", "5 0 0,x", "0 0 0,0 0 0,-0 0 0", "0 " + long + " 0,x", "0 0 40001 0", "0 -0 40001", "0 0 0,1 40001",
			strings.Repeat("0 0 0,", 300), "0 0 /", "0 0 :", "0 / 0", "0 : 0",
		},
		api.ErrRate: {
			"0 0 40001", "0 0 -40001", "0 0 " + long, "0 0 -" + long, "5 0 40001", "0 0 40001,x", "0 " + long + " 40001", "0 0 0,0 0 40001", "-1 0 -40001", "0 0 0,-1 0 40001,",
		},
		api.ErrRange:    {"1 0 0", "-1 0 0", "0 0 0,10000000001 0 0", "0 0 0,-1 0 0", long + " 0 0", "-" + long + " 0 0", "1 " + long + " 0"},
		api.ErrOrder:    {"0 0 0,0 0 0", "0 0 0,5 0 0,5 0 0", "0 0 0,5 0 0,4 0 0", "0 " + long + " 0,0 0 0"},
		api.ErrOverflow: {"0 4000000000000001 0", "0 -4000000000000001 0", "0 " + long + " 0", "0 -" + long + " 0", "0 4000000000000000 1", "0 3999990000000001 1"},
		api.ErrLong: {
			strings.TrimSuffix(strings.Repeat("0 0 0,", 257), ","), strings.Repeat("0", longest+1), strings.Repeat("0 0 40001,", longest), "0 0 40001" + strings.Repeat(" ", longest),
		},
	} {
		for _, s := range list {
			if got, e := piece.Parse(s); got != nil || e != want {
				t.Errorf("Parse(%q): %v %v, not %v", s, got, e, want)
			}
		}
	}
	// A text of the most bytes is looked at, one of a byte more isn't.
	for n, want := range map[int]api.Errno{longest - 1: api.ErrForm, longest: api.ErrForm, longest + 1: api.ErrLong} {
		if got, e := piece.Parse(strings.Repeat("x", n)); got != nil || e != want {
			t.Errorf("Parse of %d bytes: %v %v", n, got, e)
		}
	}
	if f, e := piece.Parse("0 0 40000,1 0 -40000"); len(f) != 2 || e != api.OK {
		t.Errorf("the steepest: %v %v", f, e)
	}
}

// P25.8: each byte in each place of a text makes it another function, or none.
func TestParseBytes(t *testing.T) {
	for _, s := range []string{"0 -12 7,10 30 -5", "0 0 0", "0 5 1,3 8 2"} {
		for i := range len(s) {
			for b := range 256 {
				text := s[:i] + string([]byte{byte(b)}) + s[i+1:]
				f, e := piece.Parse(text)
				if e == api.OK && piece.Text(f) != text || e != api.OK && f != nil {
					t.Errorf("Parse(%q): %v %v", text, f, e)
				}
			}
		}
	}
}

// roomy: a function with spare room behind it, and what it and that hold.
func roomy(f piece.Func) (piece.Func, piece.Func) {
	all := append(slices.Clone(f), piece.Line{From: 77, Value: 77, Rate: 77}, piece.Line{From: 88, Value: 88, Rate: 88})
	return all[:len(f):len(all)], slices.Clone(all)
}

// spoil: writes over all of an answer, its spare room too.
func spoil(f piece.Func) {
	f = f[:cap(f)]
	for i := range f {
		f[i] = piece.Line{From: -77, Value: -77, Rate: -77}
	}
}

// P2: what is handed in is neither changed nor kept, and answers share nothing.
func TestMemory(t *testing.T) {
	r := rand.New(rand.NewSource(12))
	for range 300 {
		f, keptF := roomy(chance(r))
		g, keptG := roomy(chance(r))
		for name, call := range map[string]func() (piece.Func, api.Errno){
			"Add":        func() (piece.Func, api.Errno) { return piece.Add(f, g, 1) },
			"Add none":   func() (piece.Func, api.Errno) { return piece.Add(f, g, 0) },
			"Least":      func() (piece.Func, api.Errno) { return piece.Least(f, g) },
			"Greatest":   func() (piece.Func, api.Errno) { return piece.Greatest(f, f) },
			"Shift":      func() (piece.Func, api.Errno) { return piece.Shift(f, 0) },
			"Shift by 5": func() (piece.Func, api.Errno) { return piece.Shift(f, 5) },
			"Straight":   func() (piece.Func, api.Errno) { return piece.Straight(5, 6), api.OK },
			"Corner":     func() (piece.Func, api.Errno) { return piece.Corner(5, 6), api.OK },
			"Parse":      func() (piece.Func, api.Errno) { return piece.Parse(piece.Text(f)) },
		} {
			one, e := call()
			two, d := call()
			want := slices.Clone(one)
			spoil(two)
			if !slices.Equal(one, want) || e != d {
				t.Fatalf("%s of %v, %v shares with another answer", name, f, g)
			}
			spoil(one)
			if !slices.Equal(f[:cap(f)], keptF) || !slices.Equal(g[:cap(g)], keptG) {
				t.Fatalf("%s of %v, %v changes or shares what is handed in", name, f, g)
			}
		}
		piece.Check(f)
		f.Find(5)
		f.At(5)
		f.Reach(5)
		f.Falls()
		f.Steepest()
		piece.Same(f, g)
		if !slices.Equal(f[:cap(f)], keptF) || !slices.Equal(g[:cap(g)], keptG) {
			t.Fatalf("%v, %v were changed", keptF, keptG)
		}
	}
}

// P1: no call panics, whatever it is given, each answers the same again, and beside an error nothing.
func TestEnds(t *testing.T) {
	r := rand.New(rand.NewSource(13))
	lists := []piece.Func{nil, {}, zigzag(most), zigzag(2000), make(piece.Func, 3)}
	for _, list := range wrong() {
		lists = append(lists, list...)
	}
	for range 2000 {
		f := make(piece.Func, r.Intn(5))
		for i := range f {
			f[i] = piece.Line{From: edges[r.Intn(len(edges))], Value: frac.Exact(edges[r.Intn(len(edges))]), Rate: int(edges[r.Intn(len(edges))])}
			if i == 0 && r.Intn(2) == 0 {
				f[i].From = 0
			}
		}
		lists = append(lists, f)
	}
	for _, f := range lists {
		g, x := lists[r.Intn(len(lists))], edges[r.Intn(len(edges))]
		all := func() string {
			var told []any
			sum, e := piece.Add(f, g, int(x))
			shifted, d := piece.Shift(f, x)
			least, c := piece.Least(f, g)
			greatest, b := piece.Greatest(f, g)
			y, a := f.At(x)
			if e != api.OK && sum != nil || d != api.OK && shifted != nil || c != api.OK && least != nil || b != api.OK && greatest != nil || a != api.OK && y != 0 {
				t.Errorf("beside an error: %v %v %v %v %v", sum, shifted, least, greatest, y)
			}
			n, many, ok := f.Reach(frac.Exact(x))
			up, down := f.Steepest()
			told = append(told, sum, e, shifted, d, least, c, greatest, b, y, a, n, many, ok, up, down)
			told = append(told, piece.Check(f), f.Find(x), f.Falls(), piece.Same(f, g), piece.Text(f), piece.Straight(frac.Exact(x), int(x)), piece.Corner(x, int(-x)))
			return fmt.Sprint(told...)
		}
		if one, two := all(), all(); one != two {
			t.Errorf("%v, %v, %d: %s, then %s", f, g, x, one, two)
		}
	}
}
