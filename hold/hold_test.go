package hold_test

import (
	"fmt"
	"math"
	"math/rand"
	"slices"
	"testing"

	"stipend/api"
	"stipend/hold"
)

const (
	top  = 100_000_000_000 // as the document tells them
	full = 10_000
	most = 600
)

// edges: numbers at which something may go over.
var edges = []int64{math.MinInt64, math.MinInt64 + 1, -top * 2, -top - 1, -top, -top + 1, -top / 2, -2, -1, 0, 1, 2, top / 2, top/2 + 1, top - 1, top, top + 1, top * 2, math.MaxInt64 - 1, math.MaxInt64}

func right(list ...int64) bool {
	return !slices.ContainsFunc(list, func(x int64) bool { return x < -top || x > top })
}

// limited: a table with such a limit; the tax's way of rounding isn't the limit's.
func limited(limit int) api.Table { return api.Table{Limit: limit, Round: api.Up} }

// state: so much withheld, and so much carried.
func state(withheld, shortfall int64) hold.State {
	return hold.State{Withheld: withheld, Shortfall: shortfall}
}

func TestLimits(t *testing.T) {
	if hold.MaxPlan != most {
		t.Errorf("MaxPlan is %d", hold.MaxPlan)
	}
}

// P14.1: both together, whatever their signs.
func TestDue(t *testing.T) {
	for _, c := range []struct{ withheld, shortfall, want int64 }{
		{}, {50, 30, 80}, {50, 0, 50}, {0, 30, 30}, {50, -30, 20}, {-50, 30, -20}, {-50, -30, -80}, {top, top, 2 * top}, {-top, top, 0},
	} {
		if got := state(c.withheld, c.shortfall).Due(); got != c.want {
			t.Errorf("Due of %d and %d: %d, not %d", c.withheld, c.shortfall, got, c.want)
		}
	}
}

// P14.1: rounded down, whatever the tax's way; nothing of less than nothing.
func TestLimit(t *testing.T) {
	for _, c := range []struct {
		limit int
		cash  int64
		want  int64
		e     api.Errno
	}{
		{5000, 101, 50, api.OK}, {5000, 100, 50, api.OK}, {5000, 1, 0, api.OK}, {5000, 0, 0, api.OK}, {5000, -1, 0, api.OK}, {9999, 10_000, 9999, api.OK}, {9999, 9999, 9998, api.OK}, {9999, 1, 0, api.OK}, {1, 9999, 0, api.OK}, {1, 10_000, 1, api.OK}, {1, 19_999, 1, api.OK}, {3333, 100, 33, api.OK},
		{0, 101, 0, api.OK}, {0, top, 0, api.OK}, {full, 101, 101, api.OK}, {full, top, top, api.OK}, {full, -top, 0, api.OK}, {5000, top - 1, top/2 - 1, api.OK}, {5000, -top - 1, 0, api.OK}, {5000, math.MinInt64, 0, api.OK}, // less than nothing is nothing, however much
		{5000, top + 1, 0, api.ErrOverflow}, {5000, math.MaxInt64, 0, api.ErrOverflow}, {0, top + 1, 0, api.ErrOverflow}, {-1, 101, 0, api.ErrRate}, {full + 1, 101, 0, api.ErrRate}, {full + 1, -5, 0, api.ErrRate}, {math.MinInt, 0, 0, api.ErrRate}, {math.MaxInt, top + 1, 0, api.ErrOverflow}, {-1, top + 1, 0, api.ErrOverflow},
	} {
		got, e := hold.Limit(limited(c.limit), c.cash)
		if got != c.want || e != c.e {
			t.Errorf("Limit(%d, %d): %d, %v, not %d, %v", c.limit, c.cash, got, e, c.want, c.e)
		}
	}
	for mode := range 8 {
		if got, e := hold.Limit(api.Table{Limit: 5000, Round: mode}, 101); got != 50 || e != api.OK {
			t.Errorf("Limit by %d: %d, %v", mode, got, e)
		}
	}
}

// part: what Part must tell, step by step.
func part(need, limit int64, back bool) int64 {
	if limit < need {
		need = limit
	}
	if need < 0 && !back {
		return 0
	}
	return need
}

// P14.2: of any numbers.
func TestPart(t *testing.T) {
	for _, c := range []struct {
		need, limit int64
		back        bool
		want        int64
	}{
		{80, 50, true, 50}, {80, 50, false, 50}, {50, 80, true, 50}, {50, 80, false, 50}, {50, 50, false, 50}, {0, 50, false, 0}, {-30, 50, true, -30}, {-30, 50, false, 0}, {-30, 0, true, -30}, {-30, -50, true, -50}, {-30, -50, false, 0}, {30, -50, true, -50}, {30, -50, false, 0}, {-1, 0, false, 0},
	} {
		if got := hold.Part(c.need, c.limit, c.back); got != c.want {
			t.Errorf("Part(%d, %d, %v): %d, not %d", c.need, c.limit, c.back, got, c.want)
		}
	}
	for _, need := range edges {
		for _, limit := range edges {
			for _, back := range []bool{false, true} {
				if got, want := hold.Part(need, limit, back), part(need, limit, back); got != want {
					t.Errorf("Part(%d, %d, %v): %d, not %d", need, limit, back, got, want)
				}
			}
		}
	}
}

// P14.2: what is withheld, and the state behind it, and the document's example.
func TestStep(t *testing.T) {
	for _, c := range []struct {
		limit     int
		s         hold.State
		cash, due int64
		back      bool
		want      int64
		behind    hold.State
	}{
		{5000, state(0, 0), 101, 80, true, 50, state(50, 30)}, // the document's example
		{5000, state(0, 0), 101, 80, false, 50, state(50, 30)}, {5000, state(50, 30), 100, 80, true, 30, state(80, 0)}, {5000, state(50, 30), 100, 120, true, 50, state(100, 20)}, {5000, state(50, 30), 0, 80, true, 0, state(50, 30)}, {5000, state(50, 30), -100, 90, true, 0, state(50, 40)}, {5000, state(50, 30), 100, 50, true, 0, state(50, 0)}, {full, state(0, 0), 80, 80, false, 80, state(80, 0)}, {0, state(5, 0), 80, 80, false, 0, state(5, 75)},
		{5000, state(50, 0), 100, 20, true, -30, state(20, 0)}, {5000, state(50, 0), 100, 20, false, 0, state(50, -30)}, {5000, state(50, -30), 100, 20, false, 0, state(50, -30)}, {5000, state(50, -30), 100, 20, true, -30, state(20, 0)}, {5000, state(50, -30), 100, 60, false, 10, state(60, 0)}, {0, state(50, 0), -100, 20, true, -30, state(20, 0)}, {0, state(50, 0), 0, -20, true, -70, state(-20, 0)}, {5000, state(-50, 0), 300, 20, false, 70, state(20, 0)},
		{5000, state(50, 7), 100, 80, true, 30, state(80, 0)}, {5000, state(50, -top), 100, 80, true, 30, state(80, 0)}, {5000, state(50, top), 20, 80, true, 10, state(60, 20)}, // what is carried is reckoned anew
		{full, state(0, 0), top, top, true, top, state(top, 0)}, {0, state(0, 0), top, top, true, 0, state(0, top)}, {full, state(-top, top), top, 0, false, top, state(0, 0)}, {full, state(top, -top), top, 0, true, -top, state(0, 0)}, {full, state(top, -top), top, 0, false, 0, state(top, -top)}, {0, state(-top, top), top, 0, true, 0, state(-top, top)}, {full, state(-top, 0), -top, -top, true, 0, state(-top, 0)},
	} {
		got, behind, e := hold.Step(limited(c.limit), c.s, c.cash, c.due, c.back)
		if got != c.want || behind != c.behind || e != api.OK {
			t.Errorf("Step(%d, %v, %d, %d, %v): %d, %v, %v, not %d, %v", c.limit, c.s, c.cash, c.due, c.back, got, behind, e, c.want, c.behind)
		}
	}
}

// P14.2: what may not be, of what is given, is ahead of the limit's error, that of what is needed behind it; with an error the state is as it was.
func TestStepRefuses(t *testing.T) {
	for _, c := range []struct {
		limit     int
		s         hold.State
		cash, due int64
		want      api.Errno
	}{
		{5000, state(top+1, 0), 5, 5, api.ErrOverflow}, {5000, state(-top-1, 0), 5, 5, api.ErrOverflow}, {5000, state(0, top+1), 5, 5, api.ErrOverflow}, {5000, state(0, -top-1), 5, 5, api.ErrOverflow}, {5000, state(3, 2), top + 1, 5, api.ErrOverflow}, {5000, state(3, 2), -top - 1, 5, api.ErrOverflow}, {5000, state(3, 2), 5, top + 1, api.ErrOverflow}, {5000, state(3, 2), 5, -top - 1, api.ErrOverflow}, {5000, state(math.MaxInt64, math.MinInt64), 5, 5, api.ErrOverflow}, {5000, state(3, 2), math.MinInt64, math.MaxInt64, api.ErrOverflow},
		{-1, state(top+1, 0), 5, 5, api.ErrOverflow}, {full + 1, state(0, top+1), 5, 5, api.ErrOverflow}, {full + 1, state(3, 2), -top - 1, 5, api.ErrOverflow}, {full + 1, state(3, 2), 5, top + 1, api.ErrOverflow},
		{-1, state(3, 2), 5, 5, api.ErrRate}, {full + 1, state(3, 2), -5, 5, api.ErrRate}, {full + 1, state(-top, 2), 5, top, api.ErrRate}, {math.MaxInt, state(top, 2), 5, -1, api.ErrRate},
		{5000, state(-top, 2), 5, 1, api.ErrOverflow}, {5000, state(-1, 2), 5, top, api.ErrOverflow}, {5000, state(top, 2), 5, -1, api.ErrOverflow}, {5000, state(1, 2), 5, -top, api.ErrOverflow}, {0, state(-top, 2), 5, top, api.ErrOverflow}, {full, state(top, 2), top, -top, api.ErrOverflow},
	} {
		for _, back := range []bool{false, true} {
			got, behind, e := hold.Step(limited(c.limit), c.s, c.cash, c.due, back)
			if got != 0 || behind != c.s || e != c.want {
				t.Errorf("Step(%d, %v, %d, %d, %v): %d, %v, %v, not %v", c.limit, c.s, c.cash, c.due, back, got, behind, e, c.want)
			}
		}
	}
}

// step: what Step must tell, step by step.
func step(limit int, s hold.State, cash, due int64, back bool) (int64, hold.State, api.Errno) {
	if !right(s.Withheld, s.Shortfall, cash, due) {
		return 0, s, api.ErrOverflow
	}
	if limit < 0 || limit > full {
		return 0, s, api.ErrRate
	}
	if cash < 0 {
		cash = 0
	}
	need := due - s.Withheld
	held := part(need, cash*int64(limit)/full, back)
	behind := state(s.Withheld+held, need-held)
	if !right(need, behind.Withheld, behind.Shortfall) {
		return 0, s, api.ErrOverflow
	}
	return held, behind, api.OK
}

// P14.2: at all edges; what is due is due behind it, and never more is withheld than the limit.
func TestStepMany(t *testing.T) {
	check := func(limit int, s hold.State, cash, due int64, back bool) {
		want, state, wantE := step(limit, s, cash, due, back)
		got, behind, e := hold.Step(limited(limit), s, cash, due, back)
		if got != want || behind != state || e != wantE {
			t.Errorf("Step(%d, %v, %d, %d, %v): %d, %v, %v, not %d, %v, %v", limit, s, cash, due, back, got, behind, e, want, state, wantE)
		}
		if most, _ := hold.Limit(limited(limit), cash); e == api.OK && (behind.Due() != due || got > most || got < 0 && !back) {
			t.Errorf("Step(%d, %v, %d, %d, %v): %d, %v: not as it should be", limit, s, cash, due, back, got, behind)
		}
	}
	for _, withheld := range edges {
		for _, due := range edges {
			for _, x := range edges {
				for _, limit := range []int{-1, 0, 1, 5000, full, full + 1} {
					check(limit, state(withheld, x), 2, due, x%2 == 0)
					check(limit, state(withheld, 1), x, due, x%2 == 0)
				}
			}
		}
	}
	r := rand.New(rand.NewSource(142))
	for range 20_000 {
		check(r.Intn(full+1), state(r.Int63n(400)-200, r.Int63n(400)-200), r.Int63n(1000)-200, r.Int63n(400)-200, r.Intn(2) == 0)
	}
}

// P14.3: from nothing on, one after the other.
func TestYear(t *testing.T) {
	type pays = []hold.Pay
	for _, c := range []struct {
		limit int
		list  pays
		want  []int64
		last  hold.State
	}{
		{5000, nil, nil, hold.State{}}, {5000, pays{{101, 80, true}}, []int64{50}, state(50, 30)}, {5000, pays{{101, 80, true}, {101, 80, true}, {101, 80, true}}, []int64{50, 30, 0}, state(80, 0)}, {5000, pays{{100, 80, true}, {0, 130, true}, {400, 150, false}}, []int64{50, 0, 100}, state(150, 0)},
		{5000, pays{{100, 40, true}, {100, 30, false}, {100, 20, true}}, []int64{40, 0, -20}, state(20, 0)}, {5000, pays{{100, 40, true}, {100, 30, false}, {100, 60, false}}, []int64{40, 0, 20}, state(60, 0)}, {5000, pays{{100, 40, true}, {-100, 30, false}}, []int64{40, 0}, state(40, -10)}, {0, pays{{100, 40, true}, {100, -5, true}}, []int64{0, -5}, state(-5, 0)},
		{full, pays{{top, top, false}, {top, 0, true}, {top, top, false}}, []int64{top, -top, top}, state(top, 0)},
	} {
		got, last, e := hold.Year(limited(c.limit), c.list...)
		if !slices.Equal(got, c.want) || last != c.last || e != api.OK {
			t.Errorf("Year(%d, %v): %v, %v, %v, not %v, %v", c.limit, c.list, got, last, e, c.want, c.last)
		}
	}
	for _, c := range []struct {
		limit int
		list  pays
		want  api.Errno
	}{
		{-1, pays{{100, 40, true}}, api.ErrRate}, {full + 1, pays{{100, 40, true}, {top + 1, 40, true}}, api.ErrRate}, {-1, pays{{top + 1, 40, true}}, api.ErrOverflow}, {5000, pays{{100, 40, true}, {100, 50, true}, {top + 1, 60, true}}, api.ErrOverflow}, {5000, pays{{100, 40, true}, {-top - 1, 50, true}}, api.ErrOverflow}, {5000, pays{{100, top + 1, true}}, api.ErrOverflow}, {full, pays{{top, top, true}, {5, -1, true}}, api.ErrOverflow}, {full, pays{{top, 1, true}, {top, -top, false}, {5, 0, true}}, api.ErrOverflow},
	} {
		got, last, e := hold.Year(limited(c.limit), c.list...)
		if len(got) != 0 || last != (hold.State{}) || e != c.want {
			t.Errorf("Year(%d, %v): %v, %v, %v, not %v", c.limit, c.list, got, last, e, c.want)
		}
	}
	if got, last, e := hold.Year(limited(-1)); len(got) != 0 || last != (hold.State{}) || e != api.OK {
		t.Errorf("Year of no period: %v, %v, %v", got, last, e)
	}
}

// P14.3: against Step by hand.
func TestYearMany(t *testing.T) {
	r := rand.New(rand.NewSource(143))
	for range 3000 {
		limit := r.Intn(full + 1)
		list := make([]hold.Pay, r.Intn(60))
		var want []int64
		s := hold.State{}
		for i := range list {
			list[i] = hold.Pay{Cash: r.Int63n(300) - 50, Due: r.Int63n(500) - 50, Back: r.Intn(2) == 0}
			var held int64
			held, s, _ = step(limit, s, list[i].Cash, list[i].Due, list[i].Back)
			want = append(want, held)
		}
		got, last, e := hold.Year(limited(limit), list...)
		if !slices.Equal(got, want) || last != s || e != api.OK {
			t.Fatalf("Year(%d, %v): %v, %v, %v, not %v, %v", limit, list, got, last, e, want, s)
		}
	}
}

// P14.4: as long as something is carried, and something is withheld of it.
func TestRecoup(t *testing.T) {
	for _, c := range []struct {
		limit int
		s     hold.State
		cash  int64
		many  int
		want  []int64
		left  int64
	}{
		{5000, state(50, 30), 101, 12, []int64{30}, 0}, {5000, state(50, 120), 101, 12, []int64{50, 50, 20}, 0}, {5000, state(50, 100), 101, 12, []int64{50, 50}, 0}, {5000, state(50, 120), 101, 3, []int64{50, 50, 20}, 0}, {5000, state(50, 120), 101, 2, []int64{50, 50}, 20}, {5000, state(50, 120), 101, 1, []int64{50}, 70}, {5000, state(-50, 60), 101, 5, []int64{50, 10}, 0},
		{5000, state(50, 120), 101, 0, nil, 120}, {5000, state(50, 0), 101, 12, nil, 0}, {5000, state(50, -30), 101, 12, nil, -30}, {5000, state(50, -30), 101, 0, nil, -30}, {5000, state(0, 0), 101, 12, nil, 0}, // nothing above 0 is carried
		{5000, state(50, 120), 0, 12, []int64{0}, 120}, {5000, state(50, 120), 1, 12, []int64{0}, 120}, {5000, state(50, 120), -101, 12, []int64{0}, 120}, {0, state(50, 120), 101, most, []int64{0}, 120}, {0, state(50, 120), 101, 1, []int64{0}, 120}, // behind one in which nothing is withheld it ends
		{5000, state(0, 1), 2, 1, []int64{1}, 0}, {5000, state(0, 2*most), 2, most, slices.Repeat([]int64{1}, most), most}, {5000, state(0, most), 3, most, slices.Repeat([]int64{1}, most), 0}, {5000, state(0, most+1), 3, most, slices.Repeat([]int64{1}, most), 1},
		{full, state(0, top), top, 5, []int64{top}, 0}, {full, state(-top, top), top - 1, 5, []int64{top - 1, 1}, 0}, {full, state(top, -top), top, 5, nil, -top}, {full, state(-5, top), top, 5, []int64{top}, 0},
		{-1, state(50, 0), top + 1, 12, nil, 0}, {full + 1, state(50, -1), -top - 1, 12, nil, -1}, {-1, state(50, 120), math.MaxInt64, 0, nil, 120}, // without a further period neither the limit nor the cash is looked at
	} {
		got, e := hold.Recoup(limited(c.limit), c.s, c.cash, c.many)
		if !slices.Equal(got.Held, c.want) || got.Left != c.left || e != api.OK {
			t.Errorf("Recoup(%d, %v, %d, %d): %v, %v, not %v, %d", c.limit, c.s, c.cash, c.many, got, e, c.want, c.left)
		}
	}
}

// P14.4: how many is looked at first, then the state, then the steps.
func TestRecoupRefuses(t *testing.T) {
	for _, c := range []struct {
		limit int
		s     hold.State
		cash  int64
		many  int
		want  api.Errno
	}{
		{5000, state(50, 30), 101, -1, api.ErrLong}, {5000, state(50, 30), 101, most + 1, api.ErrLong}, {-1, state(top+1, 30), top + 1, -1, api.ErrLong}, {5000, state(50, -30), 101, math.MaxInt, api.ErrLong}, {5000, state(50, -30), 101, math.MinInt, api.ErrLong},
		{5000, state(top+1, 0), 101, 12, api.ErrOverflow}, {5000, state(-top-1, 0), 101, 12, api.ErrOverflow}, {5000, state(0, top+1), 101, 12, api.ErrOverflow}, {5000, state(0, -top-1), 101, 12, api.ErrOverflow}, {5000, state(top, 1), 101, 12, api.ErrOverflow}, {5000, state(-top, -1), 101, 12, api.ErrOverflow}, {5000, state(top+1, -5), 101, 12, api.ErrOverflow}, {5000, state(-5, top+1), 101, 12, api.ErrOverflow}, {5000, state(-5, top+1), 101, 0, api.ErrOverflow}, {5000, state(5, -top-1), 101, 12, api.ErrOverflow}, {5000, state(math.MaxInt64, math.MaxInt64), 101, 12, api.ErrOverflow}, {5000, state(math.MinInt64, math.MinInt64), 101, 12, api.ErrOverflow}, {-1, state(top, 1), 101, 0, api.ErrOverflow},
		{-1, state(50, 30), 101, 12, api.ErrRate}, {full + 1, state(50, 30), -101, 1, api.ErrRate}, {5000, state(50, 30), top + 1, 12, api.ErrOverflow}, {5000, state(50, 30), -top - 1, 12, api.ErrOverflow}, {-1, state(50, 30), top + 1, 12, api.ErrOverflow}, {5000, state(-1, top), 101, 12, api.OK}, {5000, state(-top, top), 101, 2, api.OK},
	} {
		got, e := hold.Recoup(limited(c.limit), c.s, c.cash, c.many)
		if e != c.want || e != api.OK && (len(got.Held) != 0 || got.Left != 0) {
			t.Errorf("Recoup(%d, %v, %d, %d): %v, %v, not %v", c.limit, c.s, c.cash, c.many, got, e, c.want)
		}
	}
}

// P14.4: against another reckoning.
func TestRecoupMany(t *testing.T) {
	r := rand.New(rand.NewSource(144))
	for range 20_000 {
		limit, s, cash, many := r.Intn(full+1), state(r.Int63n(400)-200, r.Int63n(500)-100), r.Int63n(150)-30, r.Intn(20)
		most := max(cash, 0) * int64(limit) / full
		left := s.Shortfall
		var want []int64
		for len(want) < many && left > 0 && (len(want) == 0 || want[len(want)-1] > 0) {
			held := min(left, most)
			want = append(want, held)
			left -= held
		}
		got, e := hold.Recoup(limited(limit), s, cash, many)
		if !slices.Equal(got.Held, want) || got.Left != left || e != api.OK {
			t.Fatalf("Recoup(%d, %v, %d, %d): %v, %v, not %v, %d", limit, s, cash, many, got, e, want, left)
		}
	}
}

// P2: what is handed in stays as it is, its spare room too, and is shared with no answer.
func TestMemory(t *testing.T) {
	list := []hold.Pay{{101, 80, true}, {101, 90, true}, {7, 7, true}}
	was := slices.Clone(list)
	s := state(50, 120)
	held, _, _ := hold.Year(limited(5000), list[:2]...)
	again, _, _ := hold.Year(limited(5000), list[:2]...)
	plan, _ := hold.Recoup(limited(5000), s, 101, 5)
	other, _ := hold.Recoup(limited(5000), s, 101, 5)
	hold.Step(limited(5000), s, 101, 200, true)
	for _, x := range [][]int64{again[:cap(again)], other.Held[:cap(other.Held)]} {
		for i := range x {
			x[i] = -77
		}
	}
	if !slices.Equal(held, []int64{50, 40}) || !slices.Equal(plan.Held, []int64{50, 50, 20}) {
		t.Errorf("another answer was changed: %v, %v", held, plan)
	}
	if !slices.Equal(list, was) || s != state(50, 120) {
		t.Errorf("what is handed in was changed: %v, %v", list, s)
	}
}

// P1, P2: no call panics, whatever it is given; the same calls answer the same.
func TestEnds(t *testing.T) {
	r := rand.New(rand.NewSource(14))
	amount := func() int64 { return edges[r.Intn(len(edges))] }
	numbers := []int{math.MinInt, -1, 0, 1, 5000, full, full + 1, most, most + 1, math.MaxInt}
	number := func() int { return numbers[r.Intn(len(numbers))] }
	for range 20_000 {
		x := api.Table{Limit: number(), Round: number()}
		s, cash, due, back, many := state(amount(), amount()), amount(), amount(), r.Intn(2) == 0, number()
		list := []hold.Pay{{amount(), amount(), back}, {amount(), amount(), !back}, {amount(), amount(), back}}
		told := func() string {
			defer func() {
				if why := recover(); why != nil {
					t.Errorf("%v, %v, %d, %d, %d: %v", x, s, cash, due, many, why)
				}
			}()
			limit, e := hold.Limit(x, cash)
			held, behind, f := hold.Step(x, s, cash, due, back)
			all, last, g := hold.Year(x, list...)
			plan, h := hold.Recoup(x, s, cash, many)
			return fmt.Sprint(s.Due(), limit, e, hold.Part(cash, due, back), held, behind, f, all, last, g, plan, h)
		}
		if told() != told() {
			t.Errorf("the same calls answer otherwise: %v, %v, %d, %d, %d", x, s, cash, due, many)
		}
	}
}
