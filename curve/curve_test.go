package curve_test

import (
	"fmt"
	"math"
	"math/rand"
	"slices"
	"testing"

	"stipend/api"
	"stipend/curve"
	"stipend/gross"
	"stipend/run"
	"stipend/share"
	"stipend/window"
)

// rough: the document's example: a fifth of tax and a tenth of up to 500, both rounded up.
func rough(t *testing.T) api.Table {
	t.Helper()
	return read(t, "limit 8500", "round up", "scheme 0.00:2000", "contrib care social up 5.00 0.00 0.00:1000:2000", "kind salary + + +", "kind back - 0 0")
}

// rich: an employee who keeps all of it.
func rich(t *testing.T) *run.Employee {
	t.Helper()
	return hired(t, read(t, "limit 0", "round down", "scheme 0.00:0", "kind salary + + +"), "NT")
}

// none: an employee by name of whom all calls have an error, and which.
func none(t *testing.T) map[string]struct {
	p    *run.Employee
	want api.Errno
} {
	t.Helper()
	x := example(t)
	return map[string]struct {
		p    *run.Employee
		want api.Errno
	}{
		"none":          {nil, api.ErrMissing},
		"over":          {over(t, x), api.ErrClosed},
		"too deep at 0": {hired(t, x, "0L", of("back", money), of("tip", 10)), api.ErrOverflow},
	}
}

// The document's examples.
func TestExample(t *testing.T) {
	p := hired(t, rough(t), "0L")
	points, e := curve.Points(p, 400, 401)
	want := []curve.Point{{Gross: 400, Tax: 80, Side: 40, Net: 280, Cost: 480}, {Gross: 401, Tax: 81, Side: 41, Net: 279, Cost: 482}}
	if !slices.Equal(points, want) || e != api.OK {
		t.Errorf("Points: %+v %v", points, e)
	}
	if list, e := curve.Dips(p, 400, 1); !slices.Equal(list, []int64{401}) || e != api.OK {
		t.Errorf("Dips: %v %v", list, e)
	}
	if s := curve.Percent(1250); s != "12.50%" {
		t.Errorf("Percent: %s", s)
	}
	if list, e := curve.Pieces(p); !slices.Equal(list, []curve.Piece{{From: 0, To: 499, Keep: 7000}, {From: 500, To: top, Keep: 8000}}) || e != api.OK {
		t.Errorf("Pieces: %v %v", list, e)
	}
	if words := curve.Line(points[1]); !slices.Equal(words, []string{"4.01", "0.81", "0.41", "2.79", "4.82"}) {
		t.Errorf("Line: %v", words)
	}
	l, e := curve.Rungs(hired(t, example(t), "0L"), 80, 100, 3)
	if !slices.Equal(l.Net, []int64{80, 180, 280}) || len(l.Gross) != 3 || l.Gross[2] != 399 || !l.Rises() || e != api.OK {
		t.Errorf("Rungs: %+v %v", l, e)
	}
	if curve.MaxPoints != 64 {
		t.Errorf("MaxPoints: %d", curve.MaxPoints)
	}
}

// P28.1: of employees by chance, of all sizes, against the payslips.
func TestPoints(t *testing.T) {
	r := rand.New(rand.NewSource(1))
	right, wrong := 0, 0
	for i := range 600 {
		size := sizes[i%len(sizes)]
		p := chance(t, r, size)
		list := []int64{0, top}
		for n := r.Intn(64); len(list) < n; {
			list = append(list, r.Int63n(min(20*size, top)+1))
		}
		given := slices.Clone(list)
		var want []curve.Point
		wrongly := api.OK
		for _, h := range list {
			s, e := p.Try(h)
			c, d := share.Cost(s.Cash, s.Shares)
			if e == api.OK {
				e = d
			}
			if e != api.OK {
				want, wrongly = nil, e
				break
			}
			x := curve.Point{Gross: h, Tax: s.Tax, Net: s.Net, Cost: c}
			for _, y := range s.Shares {
				x.Side += y.Employee
			}
			want = append(want, x)
		}
		kept(t, p, "Points", func() {
			points, e := curve.Points(p, list...)
			if !slices.Equal(points, want) || e != wrongly || !slices.Equal(list, given) {
				t.Fatalf("Points: %v %v, not %v %v, of %s", points, e, want, wrongly, state(p))
			}
			if e == api.OK {
				right++
			} else {
				wrong++
			}
		})
	}
	if right < 200 || wrong < 20 {
		t.Errorf("%d right, %d wrong", right, wrong)
	}
}

// P28.1: the errors in their order, and that nothing is told beside them.
func TestPointsRefuses(t *testing.T) {
	p := hired(t, example(t), "0L")
	long := make([]int64, curve.MaxPoints)
	if points, e := curve.Points(p, long...); len(points) != 64 || e != api.OK {
		t.Errorf("Points of the most: %d %v", len(points), e)
	}
	long = append(long, -1)
	greedy := read(t, "limit 0", "round down", "scheme 0.00:0", "contrib a social down 0.00 0.00 0.00:0:10000", "kind salary + + +")
	closed, high := over(t, example(t)), hired(t, greedy, "0L", of("salary", money/2))
	for name, c := range map[string]struct {
		p    *run.Employee
		list []int64
		want api.Errno
	}{
		"none":                {nil, nil, api.ErrMissing},
		"none, and too long":  {nil, long, api.ErrMissing},
		"none, out of range":  {nil, []int64{-1}, api.ErrMissing},
		"too long":            {p, long, api.ErrLong},
		"too long, over":      {closed, long, api.ErrLong},
		"below 0":             {p, []int64{-1}, api.ErrRange},
		"behind a right one":  {p, []int64{5, 0, -1, 7}, api.ErrRange},
		"above the most":      {p, []int64{top, top + 1}, api.ErrRange},
		"far below 0":         {p, []int64{math.MinInt64}, api.ErrRange},
		"far above":           {p, []int64{math.MaxInt64}, api.ErrRange},
		"over":                {closed, []int64{0}, api.ErrClosed},
		"out of range, over":  {closed, []int64{-1, 0}, api.ErrRange},
		"over, out of range":  {closed, []int64{0, -1}, api.ErrClosed},
		"over, nothing":       {closed, nil, api.OK},
		"nothing":             {p, nil, api.OK},
		"too much a cost":     {high, []int64{0, 1}, api.ErrOverflow},
		"a cost, and a range": {high, []int64{0, 1, -1}, api.ErrOverflow},
		"a range, and a cost": {high, []int64{0, -1, 1}, api.ErrRange},
		"too much":            {hired(t, example(t), "0L", of("cash", money)), []int64{0, 1}, api.ErrOverflow},
		"too deep between":    {deep(t), []int64{0, 2, 1}, api.ErrOverflow},
	} {
		kept(t, c.p, name, func() {
			if points, e := curve.Points(c.p, c.list...); len(points) > 0 || e != c.want {
				t.Errorf("%s: %v %v, not %v", name, points, e, c.want)
			}
		})
	}
	if points, e := curve.Points(deep(t), 0, 2); len(points) != 2 || e != api.OK {
		t.Errorf("Points beside what is too deep: %v %v", points, e)
	}
}

// P28.2: of employees by chance: from 0 to the most, one behind the other, and of each coin more in one of them its part is kept.
func TestPieces(t *testing.T) {
	r := rand.New(rand.NewSource(2))
	right, longest := 0, 0
	for i := range 600 {
		p := chance(t, r, sizes[i%len(sizes)])
		w, wrong := window.Of(p)
		kept(t, p, "Pieces", func() {
			list, e := curve.Pieces(p)
			if e != wrong || (len(list) > 0) != (e == api.OK) {
				t.Fatalf("Pieces: %v %v, not %v, of %s", list, e, wrong, state(p))
			}
			if e != api.OK {
				return
			}
			right++
			longest = max(longest, len(list))
			next := int64(0)
			for k, x := range list {
				if x.From != next || x.To < x.From || x.Keep < 500 || x.Keep > full {
					t.Fatalf("piece %d of %v, of %s", k, list, state(p))
				}
				next = x.To + 1
				if x.To > x.From {
					a, _ := w.Exact(x.From)
					b, _ := w.Exact(x.From + 1)
					c, _ := w.Exact(x.To - 1)
					d, _ := w.Exact(x.To)
					if int64(b-a) != int64(x.Keep) || int64(d-c) != int64(x.Keep) || int64(d-a) != int64(x.Keep)*(x.To-x.From) {
						t.Fatalf("piece %d of %v: %d %d %d %d, of %s", k, list, a, b, c, d, state(p))
					}
				}
			}
			if next != top+1 {
				t.Fatalf("Pieces ends at %d, of %s", next-1, state(p))
			}
		})
	}
	if right < 300 || longest < 15 {
		t.Errorf("%d right, at most %d pieces", right, longest)
	}
}

// P28.2: Of's errors.
func TestPiecesRefuses(t *testing.T) {
	cases := none(t)
	cases["too much at the most"] = struct {
		p    *run.Employee
		want api.Errno
	}{hired(t, example(t), "0L", of("cash", money-top), of("cash", 1)), api.ErrOverflow}
	for name, c := range cases {
		kept(t, c.p, name, func() {
			if list, e := curve.Pieces(c.p); len(list) > 0 || e != c.want {
				t.Errorf("%s: %v %v, not %v", name, list, e, c.want)
			}
		})
	}
	if list, e := curve.Pieces(rich(t)); !slices.Equal(list, []curve.Piece{{To: top, Keep: full}}) || e != api.OK {
		t.Errorf("Pieces of one who keeps all: %v %v", list, e)
	}
}

// ladder: what a ladder is, by the words of the promise.
func ladder(p *run.Employee, from, step int64, many int) (curve.Ladder, api.Errno) {
	var l curve.Ladder
	for n := from; len(l.Net) < many && n <= money; n += step {
		a, e := gross.Up(p, n)
		if e == api.ErrNoGross {
			break
		}
		if e != api.OK {
			return curve.Ladder{}, e
		}
		l.Net, l.Gross = append(l.Net, n), append(l.Gross, a.Gross)
	}
	return l, api.OK
}

// same: are two ladders the same, where none of nothing is the same as nothing?
func same(a, b curve.Ladder) bool {
	return slices.Equal(a.Net, b.Net) && slices.Equal(a.Gross, b.Gross)
}

// P28.3: of employees by chance, against the least amounts, one by one; they never fall.
func TestRungs(t *testing.T) {
	r := rand.New(rand.NewSource(3))
	full, cut, empty, wrong := 0, 0, 0, 0
	for i := range 140 {
		size := sizes[i%len(sizes)]
		p := chance(t, r, size)
		s, e := p.Try(r.Int63n(min(20*size, top) + 1))
		if e != api.OK && i%5 > 0 {
			continue
		}
		for range 4 {
			from, step, many := s.Net+r.Int63n(9)-4, 1+r.Int63n(3*size), r.Intn(12)
			if r.Intn(4) == 0 {
				step = 1 + r.Int63n(money/4)
			}
			want, wrongly := ladder(p, from, step, many)
			kept(t, p, "Rungs", func() {
				l, e := curve.Rungs(p, from, step, many)
				if !same(l, want) || e != wrongly || !l.Rises() {
					t.Fatalf("Rungs(%d, %d, %d): %v %v, not %v %v, of %s", from, step, many, l, e, want, wrongly, state(p))
				}
				switch {
				case e != api.OK:
					wrong++
				case len(l.Net) == 0:
					empty++
				case len(l.Net) < many:
					cut++
				default:
					full++
				}
			})
		}
	}
	if full < 100 || cut < 40 || empty < 10 || wrong < 5 {
		t.Errorf("%d full, %d cut, %d empty, %d wrong", full, cut, empty, wrong)
	}
}

// P28.3: the errors in their order, the edges, and where a ladder ends.
func TestRungsEdges(t *testing.T) {
	p, all := hired(t, example(t), "0L"), rich(t)
	for _, many := range []int{-1, 65, math.MinInt, math.MaxInt, 1 << 32, 1<<32 + 1} {
		for _, x := range []*run.Employee{nil, p} {
			if l, e := curve.Rungs(x, money+1, 0, many); !same(l, curve.Ladder{}) || e != api.ErrLong {
				t.Errorf("Rungs, %d of them: %v %v", many, l, e)
			}
		}
	}
	for _, from := range edges {
		for _, step := range edges {
			for _, many := range []int{0, 1, 3, 64} {
				want, wrongly := curve.Ladder{}, api.ErrRange
				if from >= -money && from <= money && step > 0 && step <= money {
					want, wrongly = ladder(all, from, step, many)
				}
				if l, e := curve.Rungs(all, from, step, many); !same(l, want) || e != wrongly || len(l.Net) > many {
					t.Errorf("Rungs(%d, %d, %d): %v %v, not %v %v", from, step, many, l, e, want, wrongly)
				}
				if wrongly == api.ErrRange {
					if l, e := curve.Rungs(nil, from, step, many); !same(l, curve.Ladder{}) || e != api.ErrRange {
						t.Errorf("Rungs of none, %d %d %d: %v %v", from, step, many, l, e)
					}
				}
			}
		}
	}
	for name, c := range none(t) {
		if l, e := curve.Rungs(c.p, -money, 1, 5); !same(l, curve.Ladder{}) || e != c.want {
			t.Errorf("%s: %v %v, not %v", name, l, e, c.want)
		}
	}
	// The next net pay is just the most, or above it; another error behind the first rung.
	wealthy := hired(t, read(t, "limit 0", "round down", "scheme 0.00:0", "kind salary + + +"), "NT", of("salary", money-top))
	for _, c := range []struct {
		from, step int64
		many, want int
	}{{money - 2, 1, 3, 3}, {money - 2, 1, 4, 3}, {money - 2, 2, 3, 2}, {money - 2, 3, 3, 1}, {money, money, 64, 1}, {-money, money, 64, 3}, {money - top - 1, top + 2, 2, 1}} {
		if l, e := curve.Rungs(wealthy, c.from, c.step, c.many); len(l.Net) != c.want || len(l.Gross) != c.want || e != api.OK {
			t.Errorf("Rungs(%d, %d, %d): %v %v", c.from, c.step, c.many, l, e)
		}
	}
	// A rung above the most isn't looked for, where that would be too much.
	if l, e := curve.Rungs(high(t), money, 1, 2); len(l.Net) != 1 || e != api.OK {
		t.Errorf("Rungs up to the most: %v %v", l, e)
	}
	if l, e := curve.Rungs(deep(t), -money, 1, 2); !same(l, curve.Ladder{}) || e != api.ErrOverflow {
		t.Errorf("Rungs, the second of too much: %v %v", l, e)
	}
	if l, e := curve.Rungs(deep(t), -money, 1, 1); len(l.Net) != 1 || e != api.OK {
		t.Errorf("Rungs, the first alone: %v %v", l, e)
	}
}

// P28.3: a ladder rises, if no amount is less than the one ahead.
func TestRises(t *testing.T) {
	for _, c := range []struct {
		list []int64
		want bool
	}{
		{nil, true}, {[]int64{5}, true}, {[]int64{5, 5}, true}, {[]int64{5, 6}, true}, {[]int64{5, 4}, false}, {[]int64{1, 2, 3, 3, 9}, true}, {[]int64{1, 2, 3, 2, 9}, false},
		{[]int64{2, 1, 3}, false}, {[]int64{1, 3, 2}, false}, {[]int64{math.MinInt64, math.MaxInt64}, true}, {[]int64{math.MaxInt64, math.MinInt64}, false},
	} {
		for _, nets := range [][]int64{nil, {9, 8, 7}} {
			if got := (curve.Ladder{Net: nets, Gross: c.list}).Rises(); got != c.want {
				t.Errorf("%v rises: %v", c.list, got)
			}
		}
	}
}

// P28.4: of employees by chance, against the net pays.
func TestDips(t *testing.T) {
	r := rand.New(rand.NewSource(4))
	dips, wrong := 0, 0
	for i := range 300 {
		size := sizes[i%len(sizes)]
		p := chance(t, r, size)
		many := r.Intn(80)
		from := r.Int63n(min(20*size, top-100) + 1)
		if i%5 == 0 {
			from = top - int64(many)
		}
		var want []int64
		wrongly := api.OK
		for h := from + 1; h <= from+int64(many) && wrongly == api.OK; h++ {
			a, e := p.Try(h - 1)
			b, d := p.Try(h)
			if e != api.OK || d != api.OK {
				want, wrongly = nil, max(e, d)
			} else if b.Net < a.Net {
				want = append(want, h)
			}
		}
		kept(t, p, "Dips", func() {
			if list, e := curve.Dips(p, from, many); !slices.Equal(list, want) || e != wrongly {
				t.Fatalf("Dips(%d, %d): %v %v, not %v %v, of %s", from, many, list, e, want, wrongly, state(p))
			}
		})
		if dips += len(want); wrongly != api.OK {
			wrong++
		}
	}
	if dips < 100 || wrong < 10 {
		t.Errorf("%d dips, %d wrong", dips, wrong)
	}
}

// P28.4: the errors in their order, and the edges.
func TestDipsEdges(t *testing.T) {
	p := hired(t, rough(t), "0L")
	closed := over(t, example(t))
	for _, c := range []struct {
		p    *run.Employee
		from int64
		many int
		want api.Errno
	}{
		{nil, 0, 0, api.ErrMissing}, {nil, -1, -1, api.ErrMissing}, {nil, 0, 1025, api.ErrMissing},
		{p, 0, -1, api.ErrLong}, {p, 0, 1025, api.ErrLong}, {p, -1, -1, api.ErrLong}, {p, top, 1025, api.ErrLong}, {p, 0, math.MinInt, api.ErrLong}, {p, 0, math.MaxInt, api.ErrLong}, {p, 0, 1 << 32, api.ErrLong}, {closed, 0, -1, api.ErrLong},
		{p, -1, 0, api.ErrRange}, {p, -1, 1, api.ErrRange}, {p, math.MinInt64, 1024, api.ErrRange}, {p, math.MaxInt64, 1024, api.ErrRange}, {p, top + 1, 0, api.ErrRange}, {p, top, 1, api.ErrRange}, {p, top - 1023, 1024, api.ErrRange}, {closed, -1, 5, api.ErrRange},
		{closed, 0, 1, api.ErrClosed}, {closed, 0, 0, api.OK}, {deep(t), 1, 0, api.OK},
		{high(t), top - 101, 100, api.ErrOverflow}, {high(t), top - 101, 101, api.ErrOverflow},
		{deep(t), 0, 1, api.ErrOverflow}, {deep(t), 1, 1, api.ErrOverflow}, {deep(t), 0, 5, api.ErrOverflow},
		{hired(t, example(t), "0L", of("cash", money)), 0, 1, api.ErrOverflow},
	} {
		if list, e := curve.Dips(c.p, c.from, c.many); len(list) > 0 || e != c.want {
			t.Errorf("Dips(%d, %d): %v %v, not %v", c.from, c.many, list, e, c.want)
		}
	}
	// Nothing is behind, or all that may be: up to the most, too.
	for _, from := range []int64{0, 400, top} {
		if list, e := curve.Dips(p, from, 0); len(list) > 0 || e != api.OK {
			t.Errorf("Dips of nothing behind %d: %v %v", from, list, e)
		}
	}
	if list, e := curve.Dips(deep(t), 2, 5); len(list) > 0 || e != api.OK {
		t.Errorf("Dips behind what is too deep: %v %v", list, e)
	}
	if list, e := curve.Dips(high(t), top-101, 99); !slices.Equal(list, []int64{top - 100}) || e != api.OK {
		t.Errorf("Dips ahead of what is too much: %v %v", list, e)
	}
	for _, from := range []int64{0, 300, top - 1024} {
		var want []int64
		for h := from + 1; h <= from+1024; h++ { // each tenth one begins another coin of both, up to 500; of 1 no tax is withheld, by the limit
			if h%10 == 1 && h > 1 && h < 500 {
				want = append(want, h)
			}
		}
		if list, e := curve.Dips(p, from, 1024); !slices.Equal(list, want) || e != api.OK {
			t.Errorf("Dips behind %d: %v %v, not %v", from, list, e, want)
		}
	}
	// A net pay below 0 falls as well: of one who owes, and at the most below 0.
	poor := hired(t, rough(t), "0L", of("back", 700))
	if list, e := curve.Dips(poor, 0, 1); len(list) > 0 || e != api.OK { // a coin more, and a coin of the contribution
		t.Errorf("Dips below 0: %v %v", list, e)
	}
	x := read(t, "limit 0", "round down", "scheme 0.00:0", "contrib a social up 0.00 0.00 0.00:1:0", "contrib b social up 0.00 0.00 0.00:1:0", "kind back - 0 0")
	if list, e := curve.Dips(hired(t, x, "0L", of("back", money-1)), 0, 3); !slices.Equal(list, []int64{1}) || e != api.OK {
		t.Errorf("Dips to the most below 0: %v %v", list, e)
	}
}

// P28.5: lines and parts.
func TestWritten(t *testing.T) {
	for _, c := range []struct {
		x    curve.Point
		want []string
	}{
		{curve.Point{}, []string{"0.00", "0.00", "0.00", "0.00", "0.00"}},
		{curve.Point{Gross: 1, Tax: 20, Side: -300, Net: 4000, Cost: -50001}, []string{"0.01", "0.20", "-3.00", "40.00", "-500.01"}},
		{curve.Point{Gross: top, Tax: -money, Side: money, Net: -1, Cost: 7}, []string{"100000000.00", "-1000000000.00", "1000000000.00", "-0.01", "0.07"}},
		{curve.Point{Gross: math.MinInt64, Tax: math.MaxInt64}, []string{"-92233720368547758.08", "92233720368547758.07", "0.00", "0.00", "0.00"}},
	} {
		if got := curve.Line(c.x); !slices.Equal(got, c.want) {
			t.Errorf("Line(%+v): %v", c.x, got)
		}
	}
	for rate := range full + 1 {
		if got, want := curve.Percent(rate), fmt.Sprintf("%d.%02d%%", rate/100, rate%100); got != want {
			t.Errorf("Percent(%d): %s, not %s", rate, got, want)
		}
	}
	for _, rate := range []int{-1, full + 1, math.MinInt, math.MaxInt} {
		if one, two := curve.Percent(rate), curve.Percent(rate); one != two { // of others nothing is promised, but that it ends
			t.Errorf("Percent(%d): %s, then %s", rate, one, two)
		}
	}
}

// scratch writes over a list, its spare room too.
func scratch[T any](list []T, x T) {
	list = list[:cap(list)]
	for i := range list {
		list[i] = x
	}
}

// P2: what is answered is new memory, its spare room too: no two lists of an answer share any.
func TestMemory(t *testing.T) {
	p := hired(t, rough(t), "0L")
	list := []int64{1, 2, 3, 4, 5}
	points, e := curve.Points(p, list[:3]...)
	must(t, e)
	scratch(points, curve.Point{Gross: -77})
	if !slices.Equal(list, []int64{1, 2, 3, 4, 5}) {
		t.Errorf("Points changes its list to %v", list)
	}
	pieces, e := curve.Pieces(p)
	must(t, e)
	scratch(pieces, curve.Piece{From: -77})
	again, e := curve.Pieces(p)
	if len(again) != len(pieces) || again[0].From != 0 || e != api.OK {
		t.Errorf("Pieces: then %v %v", again, e)
	}
	l, e := curve.Rungs(p, 100, 7, 5)
	must(t, e)
	want := slices.Clone(l.Gross)
	scratch(l.Net, -77)
	if !slices.Equal(l.Gross, want) {
		t.Errorf("both lists of a ladder share: %v", l.Gross)
	}
	dips, e := curve.Dips(p, 300, 100)
	must(t, e)
	other, e := curve.Dips(p, 300, 100)
	must(t, e)
	scratch(dips, -77)
	if len(other) == 0 || other[0] < 0 {
		t.Errorf("two answers of Dips share: %v", other)
	}
	one, two := curve.Line(curve.Point{}), curve.Line(curve.Point{})
	scratch(one, "x")
	if two[0] != "0.00" || curve.Line(curve.Point{})[4] != "0.00" {
		t.Errorf("two lines share: %v", two)
	}
}

// P1: no call panics, whatever it is given, and each answers the same again.
func TestEnds(t *testing.T) {
	r := rand.New(rand.NewSource(5))
	for i := range 42 {
		p := chance(t, r, sizes[i%len(sizes)])
		for _, x := range edges {
			all := func() string {
				points, e := curve.Points(p, x, 0, x)
				pieces, f := curve.Pieces(p)
				l, g := curve.Rungs(p, x, 1000, 2)
				m, h := curve.Rungs(p, 100, x, 2)
				dips, d := curve.Dips(p, x, 3)
				more, c := curve.Dips(p, 0, int(x))
				return fmt.Sprint(points, e, pieces, f, l, g, l.Rises(), m, h, m.Rises(), dips, d, more, c)
			}
			kept(t, p, "a call", func() {
				if one, two := all(), all(); one != two {
					t.Errorf("%d: %s, then %s", x, one, two)
				}
			})
		}
	}
}
