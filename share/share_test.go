package share_test

import (
	"fmt"
	"math"
	"math/big"
	"math/rand"
	"slices"
	"testing"

	"stipend/api"
	"stipend/share"
	"stipend/social"
	"stipend/table"
)

const (
	top  = 100_000_000_000 // as the document tells them
	most = 64
)

// edges: numbers at which something may go over.
var edges = []int64{math.MinInt64, math.MinInt64 + 1, -top * 2, -top - 1, -top, -top + 1, -top / 2, -2, -1, 0, 1, 2, top / 2, top/2 + 1, top - 1, top, top + 1, top * 2, math.MaxInt64 - 1, math.MaxInt64}

// both: both sides.
func both(employee, employer int64) api.Share {
	return api.Share{Employee: employee, Employer: employer}
}

// row: shares of these sides, the employee's and the employer's in turn.
func row(sides ...int64) social.Row {
	var list social.Row
	for i := 0; i+1 < len(sides); i += 2 {
		list = append(list, both(sides[i], sides[i+1]))
	}
	return list
}

// joined: two amounts together, the second one with a sign, if all may be.
func joined(x, y, sign int64) (int64, bool) {
	may := func(n *big.Int) bool { return n.CmpAbs(big.NewInt(top)) <= 0 }
	sum := new(big.Int).Add(big.NewInt(x), new(big.Int).Mul(big.NewInt(y), big.NewInt(sign)))
	return sum.Int64(), may(big.NewInt(x)) && may(big.NewInt(y)) && may(sum)
}

// put: what Delta (of a sign of -1), or Post (of 1), must tell.
func put(a, b social.Row, sign int64) (social.Row, api.Errno) {
	if len(a) != len(b) {
		return nil, api.ErrMissing
	}
	var all social.Row
	for i := range a {
		employee, ok := joined(a[i].Employee, b[i].Employee, sign)
		employer, right := joined(a[i].Employer, b[i].Employer, sign)
		if !ok || !right {
			return nil, api.ErrOverflow
		}
		all = append(all, both(employee, employer))
	}
	return all, api.OK
}

// tells tells a test's fault, if a call answered otherwise.
func tells(t *testing.T, call string, got social.Row, e api.Errno, want social.Row, wantE api.Errno) {
	t.Helper()
	if !slices.Equal(got, want) || e != wantE {
		t.Errorf("%s: %v, %v, not %v, %v", call, got, e, want, wantE)
	}
}

// P16.1: of each contribution both sides, by their own signs.
func TestDeltaPost(t *testing.T) {
	for _, c := range []struct{ due, posted, now social.Row }{
		{}, {row(5, 9), row(0, 0), row(5, 9)}, {row(3, 9), row(5, 9), row(-2, 0)}, {row(5, 9, 70, 100), row(7, 4, -30, 600), row(-2, 5, 100, -500)}, {row(1, 2, 3, 4, 5, 6), row(1, 2, 3, 4, 5, 6), row(0, 0, 0, 0, 0, 0)},
		{row(top, -top), row(0, 0), row(top, -top)}, {row(0, 0), row(top, -top), row(-top, top)}, {row(top-1, 1-top), row(-1, 1), row(top, -top)}, {row(top, -top), row(top, -top), row(0, 0)}, {row(-5, 5), row(top-5, 5-top), row(-top, top)},
		{make(social.Row, most), make(social.Row, most), make(social.Row, most)},
	} {
		got, e := share.Delta(c.due, c.posted)
		tells(t, fmt.Sprintf("Delta(%v, %v)", c.due, c.posted), got, e, c.now, api.OK)
		got, e = share.Post(c.posted, c.now)
		tells(t, fmt.Sprintf("Post(%v, %v)", c.posted, c.now), got, e, c.due, api.OK)
	}
	if got, e := share.Delta(make(social.Row, most+1), make(social.Row, most+1)); len(got) != most+1 || e != api.OK {
		t.Errorf("Delta of more than a year has: %v, %v", got, e) // only Sum tells of them
	}
}

// P16.1: at all edges, of one side and of both.
func TestDeltaPostMany(t *testing.T) {
	check := func(a, b social.Row) {
		want, wantE := put(a, b, -1)
		got, e := share.Delta(a, b)
		tells(t, fmt.Sprintf("Delta(%v, %v)", a, b), got, e, want, wantE)
		want, wantE = put(a, b, 1)
		got, e = share.Post(a, b)
		tells(t, fmt.Sprintf("Post(%v, %v)", a, b), got, e, want, wantE)
	}
	for _, x := range edges {
		for _, y := range edges {
			check(row(x, 3), row(y, 40))
			check(row(3, x), row(40, y))
			check(row(x, y), row(y, x))
			check(row(1, 2, x, 3), row(50, 60, y, 70))
			check(row(1, 2, 3, x), row(50, 60, 70, y))
		}
	}
}

// P16.1: how many is told first, whatever they are; then what may not be, then more than a year has.
func TestDeltaPostRefuses(t *testing.T) {
	for _, c := range []struct {
		a, b        social.Row
		delta, post api.Errno
	}{
		{row(1, 1), nil, api.ErrMissing, api.ErrMissing}, {nil, row(1, 1), api.ErrMissing, api.ErrMissing}, {row(1, 1), row(1, 1, 2, 2), api.ErrMissing, api.ErrMissing}, {row(1, 1, 2, 2), row(1, 1), api.ErrMissing, api.ErrMissing}, {row(top+1, 1), row(), api.ErrMissing, api.ErrMissing}, {row(1, top+1, 1, 1), row(1, 1), api.ErrMissing, api.ErrMissing}, {make(social.Row, most+1), row(1, 1), api.ErrMissing, api.ErrMissing}, {make(social.Row, most+1), make(social.Row, most), api.ErrMissing, api.ErrMissing}, {row(top, 0), row(top, 0, 0, 0), api.ErrMissing, api.ErrMissing},
		{make(social.Row, most+1), make(social.Row, most+1), api.OK, api.ErrRange}, {slices.Repeat(row(top, top), most+1), slices.Repeat(row(top, top), most+1), api.OK, api.ErrRange}, {slices.Repeat(row(-top, top), most+1), slices.Repeat(row(top, top), most+1), api.ErrOverflow, api.ErrRange}, {slices.Repeat(row(top+1, 0), most+1), make(social.Row, most+1), api.ErrOverflow, api.ErrRange},
		{row(top, 0), row(-1, 0), api.ErrOverflow, api.OK}, {row(0, -top), row(0, 1), api.ErrOverflow, api.OK}, {row(top, 0), row(1, 0), api.OK, api.ErrOverflow}, {row(0, -top), row(0, -1), api.OK, api.ErrOverflow}, {row(0, top, 1, 1), row(0, -1, 1, 1), api.ErrOverflow, api.OK}, {row(1, 1, 0, top), row(1, 1, 0, 1), api.OK, api.ErrOverflow},
		{row(top+1, 0), row(top, 0), api.ErrOverflow, api.ErrOverflow}, {row(0, 0), row(top+1, 0), api.ErrOverflow, api.ErrOverflow}, {row(0, top), row(0, top+1), api.ErrOverflow, api.ErrOverflow}, {row(0, -top-1), row(0, -top), api.ErrOverflow, api.ErrOverflow}, {row(math.MinInt64, 0), row(math.MinInt64, 0), api.ErrOverflow, api.ErrOverflow}, {row(0, math.MinInt64), row(0, math.MaxInt64), api.ErrOverflow, api.ErrOverflow}, {row(top+1, 0), row(-1, 0), api.ErrOverflow, api.ErrOverflow},
	} {
		got, e := share.Delta(c.a, c.b)
		if e != c.delta || e != api.OK && len(got) != 0 {
			t.Errorf("Delta(%v, %v): %v, %v, not %v", c.a, c.b, got, e, c.delta)
		}
		got, e = share.Post(c.a, c.b)
		if e != c.post || e != api.OK && len(got) != 0 {
			t.Errorf("Post(%v, %v): %v, %v, not %v", c.a, c.b, got, e, c.post)
		}
	}
}

// P16.2: all sides together, each side, and the cost with a cash; an error of the one side is the other's, too.
func TestSides(t *testing.T) {
	for _, c := range []struct {
		cash  int64
		list  social.Row
		want  api.Share
		e     api.Errno
		cost  int64
		costE api.Errno
	}{
		{0, nil, both(0, 0), api.OK, 0, api.OK}, {1000, nil, both(0, 0), api.OK, 1000, api.OK}, {1000, row(50, 70), both(50, 70), api.OK, 1070, api.OK}, {1000, row(50, 70, -8, -100, 1, 2), both(43, -28), api.OK, 972, api.OK}, {-1000, row(0, 70, 7, 700), both(7, 770), api.OK, -230, api.OK},
		{0, row(top, -top), both(top, -top), api.OK, -top, api.OK}, {top, row(top, -top), both(top, -top), api.OK, 0, api.OK}, {0, row(top-1, 0, 1, top), both(top, top), api.OK, top, api.OK}, {-top, row(0, top, 0, -top), both(0, 0), api.OK, -top, api.OK}, {7, slices.Repeat(row(1, 2), 100), both(100, 200), api.OK, 207, api.OK},
		{1, row(0, top), both(0, top), api.OK, 0, api.ErrOverflow}, {-1, row(0, -top), both(0, -top), api.OK, 0, api.ErrOverflow}, {top, row(0, 1), both(0, 1), api.OK, 0, api.ErrOverflow}, {top + 1, row(0, -5), both(0, -5), api.OK, 0, api.ErrOverflow}, {-top - 1, row(0, 5), both(0, 5), api.OK, 0, api.ErrOverflow}, {math.MaxInt64, nil, both(0, 0), api.OK, 0, api.ErrOverflow}, {math.MinInt64, row(7, -7), both(7, -7), api.OK, 0, api.ErrOverflow},
		{0, row(top, 5, 1, 5), both(0, 0), api.ErrOverflow, 0, api.ErrOverflow}, {0, row(5, top, 5, 1), both(0, 0), api.ErrOverflow, 0, api.ErrOverflow}, {0, row(top, 0, 1, 0, -1, 0), both(0, 0), api.ErrOverflow, 0, api.ErrOverflow}, {0, row(0, -top, 0, -1, 0, 1), both(0, 0), api.ErrOverflow, 0, api.ErrOverflow}, {5, row(top+1, 0), both(0, 0), api.ErrOverflow, 0, api.ErrOverflow}, {5, row(0, -top-1), both(0, 0), api.ErrOverflow, 0, api.ErrOverflow}, {top + 1, row(0, math.MinInt64), both(0, 0), api.ErrOverflow, 0, api.ErrOverflow}, {5, row(math.MaxInt64, 0, math.MinInt64, 0), both(0, 0), api.ErrOverflow, 0, api.ErrOverflow}, // one by one, and both sides
	} {
		if got, e := share.Sides(c.list); got != c.want || e != c.e {
			t.Errorf("Sides(%v): %v, %v, not %v, %v", c.list, got, e, c.want, c.e)
		}
		if got, e := share.Employee(c.list); got != c.want.Employee || e != c.e {
			t.Errorf("Employee(%v): %v, %v, not %v, %v", c.list, got, e, c.want, c.e)
		}
		if got, e := share.Employer(c.list); got != c.want.Employer || e != c.e {
			t.Errorf("Employer(%v): %v, %v, not %v, %v", c.list, got, e, c.want, c.e)
		}
		if got, e := share.Cost(c.cash, c.list); got != c.cost || e != c.costE {
			t.Errorf("Cost(%d, %v): %v, %v, not %v, %v", c.cash, c.list, got, e, c.cost, c.costE)
		}
	}
}

// named: a table whose contributions have these names.
func named(names ...string) api.Table {
	t := api.Table{}
	for _, name := range names {
		t.Contribs = append(t.Contribs, api.Contrib{Name: name, Base: api.OnSocial, Bands: []api.Band{{Rate: 500}}, Round: api.HalfUp})
	}
	return t
}

// P16.2: a line each, in the table's order; nothing of another number of them.
func TestLines(t *testing.T) {
	for _, c := range []struct {
		names []string
		list  social.Row
		want  []string
	}{
		{nil, nil, nil}, {[]string{"health"}, row(500, 700), []string{"health 5.00 7.00"}}, {[]string{"health", "care", "jobs"}, row(0, -1, 123_456, 10, -200_005, 99), []string{"health 0.00 -0.01", "care 1234.56 0.10", "jobs -2000.05 0.99"}}, {[]string{"a", "a"}, row(1, 2, 3, 4), []string{"a 0.01 0.02", "a 0.03 0.04"}},
		{[]string{"health"}, row(top, -top), []string{"health 1000000000.00 -1000000000.00"}}, {[]string{"health"}, row(math.MinInt64, math.MaxInt64), []string{"health -92233720368547758.08 92233720368547758.07"}},
		{[]string{"health"}, nil, nil}, {nil, row(1, 2), nil}, {[]string{"health"}, row(1, 2, 3, 4), nil}, {[]string{"health", "care"}, row(1, 2), nil},
	} {
		if got := share.Lines(named(c.names...), c.list); !slices.Equal(got, c.want) {
			t.Errorf("Lines(%q, %v): %q, not %q", c.names, c.list, got, c.want)
		}
	}
}

// P16.3: a year of 0 to 64 contributions, in which nothing was posted.
func TestNew(t *testing.T) {
	for _, n := range []int{0, 1, 2, 6, most - 1, most} {
		y, e := share.New(n)
		if y == nil || e != api.OK {
			t.Fatalf("New(%d): %v, %v", n, y, e)
		}
		if got := y.Posted(); !slices.Equal(got, make(social.Row, n)) || y.Posts() != 0 {
			t.Errorf("New(%d): %v, %d", n, got, y.Posts())
		}
		for i := range y.Posted() {
			due := make(social.Row, n)
			due[i] = both(5, -9)
			if got, e := y.Reach(due); len(got) != n || got[i] != both(5, -9) || e != api.OK {
				t.Errorf("Reach of %d of %d: %v, %v", i, n, got, e)
			}
		}
	}
	for _, n := range []int{-1, most + 1, math.MinInt, math.MaxInt} {
		if y, e := share.New(n); y != nil || e != api.ErrRange {
			t.Errorf("New(%d): %v, %v", n, y, e)
		}
	}
}

// begun: a year of so many contributions.
func begun(t *testing.T, n int) *share.Year {
	t.Helper()
	y, e := share.New(n)
	if y == nil || e != api.OK {
		t.Fatalf("New(%d): %v, %v", n, y, e)
	}
	return y
}

// P16.3: what is posted, step by step, and the document's example; what is refused isn't posted.
func TestReach(t *testing.T) {
	y := begun(t, 1)
	for i, c := range []struct {
		due, now, posted social.Row
		e                api.Errno
		posts            int
	}{
		{row(5, 9), row(5, 9), row(5, 9), api.OK, 1}, {row(3, 9), row(-2, 0), row(3, 9), api.OK, 2}, // the document's example
		{row(3, 9), row(0, 0), row(3, 9), api.OK, 3}, {row(), nil, row(3, 9), api.ErrMissing, 3}, {row(1, 2, 3, 4), nil, row(3, 9), api.ErrMissing, 3}, {row(top+1, 9), nil, row(3, 9), api.ErrOverflow, 3}, {row(3, -top-1), nil, row(3, 9), api.ErrOverflow, 3}, {row(-top, 9), nil, row(3, 9), api.ErrOverflow, 3}, {row(3, -top+8), nil, row(3, 9), api.ErrOverflow, 3}, {row(math.MinInt64, math.MaxInt64), nil, row(3, 9), api.ErrOverflow, 3},
		{row(top, 0), row(top-3, -9), row(top, 0), api.OK, 4}, {row(-1, 0), nil, row(top, 0), api.ErrOverflow, 4}, {row(0, -top), row(-top, -top), row(0, -top), api.OK, 5}, {row(0, 1), nil, row(0, -top), api.ErrOverflow, 5}, {row(-7, 0), row(-7, top), row(-7, 0), api.OK, 6},
	} {
		got, e := y.Reach(c.due)
		tells(t, fmt.Sprintf("Reach %d, of %v", i, c.due), got, e, c.now, c.e)
		if got := y.Posted(); !slices.Equal(got, c.posted) || !slices.Equal(y.Row, c.posted) || y.Posts() != c.posts {
			t.Errorf("behind Reach %d, of %v: %v, %d, not %v, %d", i, c.due, got, y.Posts(), c.posted, c.posts)
		}
	}
	none := begun(t, 0)
	if got, e := none.Reach(nil); len(got) != 0 || e != api.OK || none.Posts() != 1 || len(none.Posted()) != 0 {
		t.Errorf("Reach of no contributions: %v, %v", got, e)
	}
	// Of several contributions none is posted, if the last one may not be.
	many := begun(t, 3)
	many.Reach(row(1, 2, 3, 4, 5, 6))
	if got, e := many.Reach(row(10, 20, 30, 40, 50, top+1)); len(got) != 0 || e != api.ErrOverflow || !slices.Equal(many.Posted(), row(1, 2, 3, 4, 5, 6)) || many.Posts() != 1 {
		t.Errorf("Reach of what may not be: %v, %v, then %v", got, e, many.Posted())
	}
}

// P16.3: all that was posted, together, is what is due.
func TestReachMany(t *testing.T) {
	r := rand.New(rand.NewSource(163))
	for range 500 {
		n := r.Intn(7)
		y := begun(t, n)
		posted, posts := make(social.Row, n), 0
		for range r.Intn(30) {
			due := make(social.Row, n+r.Intn(12)/11)
			for i := range due {
				due[i] = both(r.Int63n(2000)-500, r.Int63n(2000)-500)
				if r.Intn(20) == 0 {
					due[i].Employer = edges[r.Intn(len(edges))]
				}
			}
			want, wantE := put(due, posted, -1)
			got, e := y.Reach(due)
			tells(t, fmt.Sprintf("Reach(%v) from %v on", due, posted), got, e, want, wantE)
			if e == api.OK {
				posted, _ = put(posted, got, 1)
				posts++
				if !slices.Equal(posted, due) {
					t.Fatalf("Reach(%v): then %v", due, posted)
				}
			}
			if !slices.Equal(y.Posted(), posted) || y.Posts() != posts {
				t.Fatalf("behind Reach(%v): %v, %d, not %v, %d", due, y.Posted(), y.Posts(), posted, posts)
			}
		}
	}
}

// spoil changes a list, and its spare room.
func spoil(lists ...social.Row) {
	for _, list := range lists {
		for i := range list[:cap(list)] {
			list[:cap(list)][i] = both(-77, -77)
		}
	}
}

// P2: what is handed in stays as it is, its spare room too, and is shared with no answer, nor kept; nor do answers share any.
func TestMemory(t *testing.T) {
	room := row(1, 2, 3, 4, -77, -77)
	a, b := room[:2], row(10, 20, 30, 40)
	was, had := slices.Clone(room), slices.Clone(b)
	x, wasTable := named("health", "care"), table.Clone(named("health", "care"))
	y, other := begun(t, 2), begun(t, 2)
	delta, _ := share.Delta(a, b)
	post, _ := share.Post(a, b)
	reached, _ := y.Reach(a)
	posted, lines := y.Posted(), share.Lines(x, a)
	told := fmt.Sprint(delta, post, reached, posted, lines)
	again, _ := share.Delta(a, b)
	more, _ := share.Post(a, b)
	spoil(again, more, y.Posted())
	now, _ := y.Reach(b)
	spoil(now)
	now, _ = other.Reach(a)
	spoil(now, other.Posted())
	share.Sides(a)
	share.Cost(5, a)
	clear(share.Lines(x, a))
	if got := fmt.Sprint(delta, post, reached, posted, lines); got != told {
		t.Errorf("another answer was changed: %s, not %s", got, told)
	}
	if !slices.Equal(y.Posted(), b) || !slices.Equal(other.Posted(), a) {
		t.Errorf("what is kept was changed: %v, %v", y.Posted(), other.Posted())
	}
	if !slices.Equal(room, was) || !slices.Equal(b, had) || !table.Same(x, wasTable) {
		t.Errorf("what is handed in was changed: %v, %v, %v", room, b, x)
	}
	kept := slices.Clone(b)
	spoil(b, a)
	if !slices.Equal(y.Posted(), kept) || !slices.Equal(other.Posted(), was[:2]) || fmt.Sprint(delta, post, reached, posted, lines) != told {
		t.Errorf("what was handed in is kept: %v, %v", y.Posted(), other.Posted())
	}
}

// P1, P2: no call panics, whatever it is given; beside an error all is zero; the same calls answer the same.
func TestEnds(t *testing.T) {
	r := rand.New(rand.NewSource(16))
	amount := func() int64 { return edges[r.Intn(len(edges))] }
	shares := func(n int) social.Row {
		list := make(social.Row, n)
		for i := range list {
			list[i] = both(amount(), r.Int63n(9))
			if r.Intn(3) > 0 {
				list[i] = both(r.Int63n(9), amount()%top)
			}
		}
		return list
	}
	names := []string{"health", "", "\xff\n", "a b", "none"}
	for range 20_000 {
		n := []int{math.MinInt, -1, 0, 1, 2, 3, most, most + 1, math.MaxInt}[r.Intn(9)]
		size := r.Intn(4)
		a, b, c := shares(size), shares(size), shares(r.Intn(4))
		x, cash := named(names[:r.Intn(5)]...), amount()
		told := func() string {
			defer func() {
				if why := recover(); why != nil {
					t.Errorf("%d, %v, %v, %v, %d: %v", n, a, b, c, cash, why)
				}
			}()
			text := ""
			tell := func(list social.Row, e api.Errno) {
				if e != api.OK && len(list) != 0 {
					t.Errorf("%v beside %v", list, e)
				}
				text += fmt.Sprint(list, e)
			}
			side := func(x int64, e api.Errno) {
				if e != api.OK && x != 0 {
					t.Errorf("%d beside %v", x, e)
				}
				text += fmt.Sprint(x, e)
			}
			tell(share.Delta(a, b))
			tell(share.Delta(a, c))
			tell(share.Post(a, b))
			tell(share.Post(b, c))
			all, e := share.Sides(a)
			side(all.Employee, e)
			side(all.Employer, e)
			side(share.Employee(b))
			side(share.Employer(b))
			side(share.Cost(cash, c))
			y, e := share.New(n)
			if e != api.OK {
				if y != nil {
					t.Errorf("a year beside %v", e)
				}
				y, _ = share.New(size)
			}
			tell(y.Reach(a))
			tell(y.Reach(b))
			tell(y.Reach(c))
			return text + fmt.Sprint(e, y.Posts(), y.Posted(), share.Lines(x, a))
		}
		if told() != told() {
			t.Errorf("the same calls answer otherwise: %d, %v, %v, %v, %d", n, a, b, c, cash)
		}
	}
}
