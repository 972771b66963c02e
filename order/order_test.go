package order_test

import (
	"cmp"
	"fmt"
	"math"
	"math/big"
	"math/rand"
	"slices"
	"strings"
	"testing"

	"stipend/api"
	"stipend/order"
)

const (
	top  = 100_000_000_000 // as the document tells them
	full = 10_000
	most = 8
)

// edges: numbers at which something may go over.
var edges = []int64{math.MinInt64, math.MinInt64 + 1, -top * 2, -top - 1, -top, -top + 1, -1000, -1, 0, 1, 50, 1000, top / 2, top - 1, top, top + 1, top * 2, math.MaxInt64 - 1, math.MaxInt64}

// may: may amounts be?
func may(list ...int64) bool {
	return !slices.ContainsFunc(list, func(x int64) bool { return x < -top || x > top })
}

// of: an order of these.
func of(id, priority int, amount int64, rate int, total int64) api.Order {
	return api.Order{ID: id, Priority: priority, Amount: amount, Rate: rate, Total: total}
}

// state: an order that took so much, with arrears.
func state(o api.Order, taken, arrears int64) order.State {
	return order.State{Order: o, Taken: taken, Arrears: arrears}
}

// fixed: an order of an amount without an end.
func fixed(id, priority int) api.Order { return of(id, priority, 100, 0, 0) }

// took: what an order took in a period, and carries.
func took(id int, taken, carried int64) api.Taken {
	return api.Taken{Order: id, Taken: taken, Carried: carried}
}

// with: a book of these orders.
func with(t *testing.T, list ...api.Order) *order.Book {
	t.Helper()
	b := &order.Book{}
	for _, o := range list {
		if e := b.Add(o); e != api.OK {
			t.Fatalf("Add(%v): %v", o, e)
		}
	}
	return b
}

func TestLimits(t *testing.T) {
	if order.Most != 8 || order.MaxID != 999_999 || order.MaxPriority != 999 {
		t.Error(order.Most, order.MaxID, order.MaxPriority)
	}
}

// checked: what Check must tell.
func checked(o api.Order) api.Errno {
	if o.ID <= 0 || o.ID >= 1_000_000 || o.Priority <= -1 || o.Priority >= 1000 {
		return api.ErrRange
	}
	if !may(o.Amount) || !may(o.Total) {
		return api.ErrOverflow
	}
	if o.Amount < 0 || o.Total < 0 {
		return api.ErrRange
	}
	if o.Rate < 0 || o.Rate > full {
		return api.ErrRate
	}
	if o.Amount == 0 && o.Rate == 0 {
		return api.ErrForm
	}
	return api.OK
}

// numbers: ints at which something goes over.
var (
	ids        = []int{math.MinInt, -1, 0, 1, 7, 999_999, 1_000_000, math.MaxInt}
	priorities = []int{math.MinInt, -1, 0, 1, 999, 1000, math.MaxInt}
	rates      = []int{math.MinInt, -1, 0, 1, full, full + 1, math.MaxInt}
)

// P17.1: what may be, and each thing that may not, by itself.
func TestCheck(t *testing.T) {
	for _, c := range []struct {
		o api.Order
		e api.Errno
	}{
		{of(7, 2, 5000, 0, 8000), api.OK}, {of(1, 0, 1, 0, 0), api.OK}, {of(999_999, 999, 0, 1, 0), api.OK}, {of(1, 0, top, full, top), api.OK}, {of(1, 1, 5, 5, 1), api.OK},
		{of(0, 2, 50, 0, 0), api.ErrRange}, {of(1_000_000, 2, 50, 0, 0), api.ErrRange}, {of(-7, 2, 50, 0, 0), api.ErrRange}, {of(7, -1, 50, 0, 0), api.ErrRange}, {of(7, 1000, 50, 0, 0), api.ErrRange},
		{of(7, 2, top+1, 0, 0), api.ErrOverflow}, {of(7, 2, 50, 0, top+1), api.ErrOverflow}, {of(7, 2, -top-1, 0, 0), api.ErrOverflow}, {of(7, 2, 50, 0, -top-1), api.ErrOverflow},
		{of(7, 2, -1, 0, 0), api.ErrRange}, {of(7, 2, 50, 0, -1), api.ErrRange}, {of(7, 2, -top, 0, 0), api.ErrRange}, {of(7, 2, 50, 0, -top), api.ErrRange},
		{of(7, 2, 50, -1, 0), api.ErrRate}, {of(7, 2, 0, full+1, 0), api.ErrRate}, {of(7, 2, 0, 0, 0), api.ErrForm}, {of(7, 2, 0, 0, 80), api.ErrForm}, {api.Order{}, api.ErrRange},
		{of(0, 2, top+1, 0, 0), api.ErrRange}, {of(7, 2, -1, 0, top+1), api.ErrOverflow}, {of(7, 2, -1, -1, 0), api.ErrRange}, {of(7, 2, 0, -1, -1), api.ErrRange}, {of(7, 2, 0, -1, 0), api.ErrRate}, // the first of several
	} {
		if e := order.Check(c.o); e != c.e {
			t.Errorf("Check(%v): %v, not %v", c.o, e, c.e)
		}
	}
}

// orders: all orders of edges.
func orders(check func(o api.Order)) {
	for _, id := range ids {
		for _, priority := range priorities {
			for _, amount := range edges {
				for _, rate := range rates {
					for _, total := range edges {
						check(of(id, priority, amount, rate, total))
					}
				}
			}
		}
	}
}

// P17.1, P17.3: of several things that may not be the first one that is named is told; an order that may not be isn't there.
func TestCheckMany(t *testing.T) {
	orders(func(o api.Order) {
		want := checked(o)
		if e := order.Check(o); e != want {
			t.Errorf("Check(%v): %v, not %v", o, e, want)
		}
		b := order.Book{}
		if e := b.Add(o); e != want {
			t.Errorf("Add(%v): %v, not %v", o, e, want)
		}
		if list := b.List(); (len(list) == 1) != (want == api.OK) || want == api.OK && list[0] != state(o, 0, 0) {
			t.Errorf("behind Add(%v): %v", o, list)
		}
	})
}

// P17.2: how much is left, and whether all was taken.
func TestLeft(t *testing.T) {
	for _, c := range []struct {
		total, taken, arrears int64
		left                  int64
		over                  bool
	}{
		{8000, 4000, 1000, 3000, false}, // the document's example
		{80, 0, 0, 80, false}, {80, 79, 0, 1, false}, {80, 80, 0, 0, true}, {80, 81, 0, 0, true}, {80, 0, 80, 0, false}, {80, 0, 81, 0, false}, {80, 40, 40, 0, false}, {80, 40, 41, 0, false}, {80, 100, -50, 30, true}, {80, -20, 0, 100, false}, {80, 20, -30, 90, false},
		{0, 0, 0, top, false}, {0, 500, 0, top, false}, {0, 500, 90, top, false}, {0, -1, -1, top, false}, {0, top, top, top, false},
		{1, 0, 0, 1, false}, {1, 1, 0, 0, true}, {top, 0, 0, top, false}, {top, top, 0, 0, true}, {top, top - 1, 0, 1, false}, {top, 1, top, 0, false}, {1, top, top, 0, true}, {1, -top, top, 1, false},
	} {
		s := state(of(7, 2, 50, 0, c.total), c.taken, c.arrears)
		if left, over := s.Left(), s.Over(); left != c.left || over != c.over {
			t.Errorf("%v: Left %d, Over %v, not %d, %v", s, left, over, c.left, c.over)
		}
	}
}

// ordered: what Ordered must tell, in big numbers.
func ordered(s order.State, net int64) (int64, api.Errno) {
	if net < 0 {
		net = 0
	}
	if !may(net) {
		return 0, api.ErrOverflow
	}
	part := new(big.Int).Mul(big.NewInt(net), big.NewInt(int64(s.Rate)))
	part.Quo(part, big.NewInt(full)) // neither is below 0
	part.Add(part, big.NewInt(s.Amount))
	if part.Cmp(big.NewInt(top)) > 0 {
		return 0, api.ErrOverflow
	}
	left := big.NewInt(s.Total)
	left.Sub(left, big.NewInt(s.Taken)).Sub(left, big.NewInt(s.Arrears))
	switch {
	case s.Total == 0:
		return part.Int64(), api.OK
	case left.Sign() <= 0:
		return 0, api.OK
	case left.Cmp(part) < 0:
		return left.Int64(), api.OK
	}
	return part.Int64(), api.OK
}

// P17.2: how much is ordered: the rate's part of the net pay, rounded down, and the amount, up to what is left.
func TestOrdered(t *testing.T) {
	for _, c := range []struct {
		s    order.State
		net  int64
		want int64
		e    api.Errno
	}{
		{state(of(7, 2, 5000, 0, 8000), 4000, 1000), 100_000, 3000, api.OK}, {state(of(7, 2, 5000, 0, 8000), 0, 0), 100_000, 5000, api.OK}, {state(of(7, 2, 5000, 0, 8000), 0, 0), 0, 5000, api.OK}, // the document's example, and a net pay of nothing
		{state(of(7, 2, 50, 1000, 0), 0, 0), 130, 63, api.OK}, {state(of(7, 2, 50, 1000, 0), 0, 0), 139, 63, api.OK}, {state(of(7, 2, 50, 1000, 0), 0, 0), 140, 64, api.OK}, {state(of(7, 2, 0, 1, 0), 0, 0), full - 1, 0, api.OK}, {state(of(7, 2, 0, 1, 0), 0, 0), full, 1, api.OK}, {state(of(7, 2, 0, full, 0), 9, 9), 77, 77, api.OK},
		{state(of(7, 2, 50, 1000, 0), 0, 0), -1, 50, api.OK}, {state(of(7, 2, 50, full, 0), 0, 0), -top, 50, api.OK}, {state(of(7, 2, 50, full, 0), 0, 0), -top - 1, 50, api.OK}, {state(of(7, 2, 50, full, 0), 0, 0), math.MinInt64, 50, api.OK}, {state(of(7, 2, 0, full, 30), 0, 0), -5, 0, api.OK},
		{state(of(7, 2, 50, 1000, 60), 0, 0), 130, 60, api.OK}, {state(of(7, 2, 50, 1000, 63), 0, 0), 130, 63, api.OK}, {state(of(7, 2, 50, 1000, 90), 20, 8), 130, 62, api.OK}, {state(of(7, 2, 50, 1000, 90), 90, 0), 130, 0, api.OK}, {state(of(7, 2, 50, 1000, 90), 60, 60), 130, 0, api.OK},
		{state(of(7, 2, 0, full, 0), top, top), top, top, api.OK}, {state(of(7, 2, top, 0, 0), 0, 0), top, top, api.OK}, {state(of(7, 2, top, 1, 0), 0, 0), full - 1, top, api.OK},
		{state(of(7, 2, top, 1, 0), 0, 0), full, 0, api.ErrOverflow}, {state(of(7, 2, 1, full, 50), 50, 0), top, 0, api.ErrOverflow}, {state(of(7, 2, top, full, 0), 0, 0), top, 0, api.ErrOverflow}, {state(of(7, 2, 50, 0, 0), 0, 0), top + 1, 0, api.ErrOverflow}, {state(of(7, 2, 50, 0, 80), 80, 0), math.MaxInt64, 0, api.ErrOverflow}, // also where nothing is left
		{state(of(7, 2, 50, -1, 0), 0, 0), 5, 0, api.ErrRate}, {state(of(7, 2, 50, full+1, 0), 0, 0), -5, 0, api.ErrRate}, {state(of(7, 2, 50, -1, 0), 0, 0), top + 1, 0, api.ErrOverflow}, {state(of(7, 2, top+1, -1, 0), 0, 0), 5, 0, api.ErrRate}, {state(of(7, 2, top+1, 0, 80), 80, 0), 5, 0, api.ErrOverflow}, // the errors of both, in their order
	} {
		if got, e := c.s.Ordered(c.net); got != c.want || e != c.e {
			t.Errorf("%v of %d: %d, %v, not %d, %v", c.s, c.net, got, e, c.want, c.e)
		}
	}
}

// P17.2: at all edges, and of small amounts all.
func TestOrderedMany(t *testing.T) {
	check := func(s order.State, net int64) {
		want, wantE := ordered(s, net)
		if got, e := s.Ordered(net); got != want || e != wantE {
			t.Errorf("%v of %d: %d, %v, not %d, %v", s, net, got, e, want, wantE)
		}
		left := max(s.Total-s.Taken-s.Arrears, 0)
		if s.Total == 0 {
			left = top
		}
		if got := s.Left(); got != left {
			t.Errorf("%v: Left %d, not %d", s, got, left)
		}
		if over := s.Total > 0 && s.Taken >= s.Total; s.Over() != over {
			t.Errorf("%v: Over %v, not %v", s, s.Over(), over)
		}
	}
	amounts := slices.DeleteFunc(slices.Clone(edges), func(x int64) bool { return !may(x) })
	orders := slices.DeleteFunc(slices.Clone(amounts), func(x int64) bool { return x < 0 })
	for _, amount := range orders {
		for _, total := range orders {
			for _, taken := range amounts {
				for _, arrears := range amounts {
					s := state(of(7, 2, amount, []int{1, 3333, full}[(taken+arrears)&1], total), taken, arrears)
					for _, net := range edges {
						check(s, net)
					}
				}
			}
		}
	}
	for _, rate := range []int{0, 1, 2500, 3333, 9999, full} {
		for net := range int64(30) {
			for total := range int64(12) {
				for taken := range int64(12) {
					check(state(of(7, 2, net%5, rate, total), taken, taken%4-1), net-3)
				}
			}
		}
	}
}

// model is what a book must be: its orders, as they were put to it.
type model []order.State

// list: what List must tell.
func (m model) list() []order.State {
	list := slices.Clone(m)
	slices.SortStableFunc(list, func(a, b order.State) int { return cmp.Compare(a.ID, b.ID) })
	slices.SortStableFunc(list, func(a, b order.State) int { return cmp.Compare(a.Priority, b.Priority) })
	return list
}

func (m model) at(id int) int {
	for i, s := range m {
		if s.ID == id {
			return i
		}
	}
	return -1
}

func (m model) add(o api.Order) (model, api.Errno) {
	if e := checked(o); e != api.OK {
		return m, e
	}
	if m.at(o.ID) >= 0 {
		return m, api.ErrTwice
	}
	if len(m) >= most {
		return m, api.ErrLong
	}
	return append(m, state(o, 0, 0)), api.OK
}

func (m model) cancel(id int) (model, api.Errno) {
	i := m.at(id)
	if i < 0 {
		return m, api.ErrMissing
	}
	return append(slices.Clone(m[:i]), m[i+1:]...), api.OK
}

func (m model) took(list []api.Taken) (model, api.Errno) {
	behind := slices.Clone(m)
	for _, x := range list {
		i := behind.at(x.Order)
		if i < 0 {
			return m, api.ErrMissing
		}
		if !may(x.Taken) || !may(behind[i].Taken+x.Taken) || !may(x.Carried) {
			return m, api.ErrOverflow
		}
		behind[i].Taken += x.Taken
		behind[i].Arrears = x.Carried
	}
	return behind, api.OK
}

func (m model) owed() (int64, int, api.Errno) {
	owed, endless := int64(0), 0
	for _, s := range m {
		switch {
		case s.Total == 0:
			endless++
		case !may(s.Total - s.Taken):
			return 0, 0, api.ErrOverflow
		case s.Total > s.Taken:
			owed += s.Total - s.Taken
		}
	}
	if !may(owed) { // none is below 0, so no sum of some is above all
		return 0, 0, api.ErrOverflow
	}
	return owed, endless, api.OK
}

func (m model) sweep() (model, []int) {
	var gone []int
	for _, s := range m.list() {
		if s.Total > 0 && s.Taken >= s.Total && s.Arrears == 0 {
			gone = append(gone, s.ID)
			m, _ = m.cancel(s.ID)
		}
	}
	return m, gone
}

// holds tells a test's fault, if a book isn't what it must be.
func holds(t *testing.T, step string, b *order.Book, m model) {
	t.Helper()
	if got, want := b.List(), m.list(); !slices.Equal(got, want) {
		t.Fatalf("behind %s: %v, not %v", step, got, want)
	}
	for _, id := range []int{math.MinInt, -1, 0, 1, 2, 3, 4, 5, 6, 7, 8, 9, 10, 11, 12, 1_000_000} {
		want, wantE := order.State{}, api.ErrMissing
		if i := m.at(id); i >= 0 {
			want, wantE = m[i], api.OK
		}
		if got, e := b.Find(id); got != want || e != wantE {
			t.Fatalf("behind %s: Find(%d): %v, %v, not %v, %v", step, id, got, e, want, wantE)
		}
	}
	want, wantN, wantE := m.owed()
	if got, n, e := b.Owed(); got != want || n != wantN || e != wantE {
		t.Fatalf("behind %s, of %v: Owed %d, %d, %v, not %d, %d, %v", step, m, got, n, e, want, wantN, wantE)
	}
}

// P17.3: the zero book has none; orders stand by their priority, then by their number, however they came.
func TestList(t *testing.T) {
	b := &order.Book{}
	holds(t, "nothing", b, nil)
	if e := b.Cancel(1); e != api.ErrMissing {
		t.Errorf("Cancel of none: %v", e)
	}
	if gone := b.Sweep(); len(gone) != 0 {
		t.Errorf("Sweep of none: %v", gone)
	}
	want := []order.State{state(fixed(30, 0), 0, 0), state(fixed(4, 2), 0, 0), state(fixed(10, 2), 0, 0), state(fixed(200, 2), 0, 0), state(fixed(1, 11), 0, 0), state(fixed(2, 999), 0, 0)}
	r := rand.New(rand.NewSource(173))
	for range 100 {
		b := &order.Book{}
		for _, i := range r.Perm(len(want)) {
			if e := b.Add(want[i].Order); e != api.OK {
				t.Fatalf("Add(%v): %v", want[i], e)
			}
		}
		if got := b.List(); !slices.Equal(got, want) {
			t.Fatalf("List: %v, not %v", got, want)
		}
	}
}

// P17.3: what may not be is told first, then what is there, then that there are too many; with an error nothing changes.
func TestAddRefuses(t *testing.T) {
	b, m := &order.Book{}, model{}
	for id := range most {
		if e := b.Add(fixed(id+1, 5)); e != api.OK {
			t.Fatalf("Add of %d: %v", id+1, e)
		}
		m = append(m, state(fixed(id+1, 5), 0, 0))
		if e := b.Add(of(id+1, 3, 70, 5, 9)); e != api.ErrTwice { // another order of that number
			t.Errorf("Add of %d twice: %v", id+1, e)
		}
		holds(t, "Add", b, m)
	}
	for _, c := range []struct {
		o api.Order
		e api.Errno
	}{
		{fixed(9, 5), api.ErrLong}, {fixed(8, 5), api.ErrTwice}, {fixed(1, 0), api.ErrTwice}, {of(8, 5, 0, 0, 0), api.ErrForm}, {of(9, 5, 0, full+1, 0), api.ErrRate}, {of(9, 5, top+1, 0, 0), api.ErrOverflow}, {of(8, 1000, 5, 0, 0), api.ErrRange}, {fixed(0, 5), api.ErrRange},
	} {
		if e := b.Add(c.o); e != c.e {
			t.Errorf("Add(%v): %v, not %v", c.o, e, c.e)
		}
		holds(t, "Add that is refused", b, m)
	}
	for _, id := range []int{0, -1, 9, 1_000_000, math.MinInt, math.MaxInt} {
		if e := b.Cancel(id); e != api.ErrMissing {
			t.Errorf("Cancel(%d): %v", id, e)
		}
	}
	holds(t, "Cancel that is refused", b, m)
	if e := b.Cancel(3); e != api.OK {
		t.Errorf("Cancel: %v", e)
	}
	if e := b.Cancel(3); e != api.ErrMissing {
		t.Errorf("Cancel twice: %v", e)
	}
	if e := b.Add(of(3, 0, 0, 7, 9)); e != api.OK { // there is room again, and nothing of it is left
		t.Errorf("Add behind Cancel: %v", e)
	}
	m, _ = m.cancel(3)
	m, _ = m.add(of(3, 0, 0, 7, 9))
	holds(t, "Add behind Cancel", b, m)
}

// P17.4: what is taken is put to what was, what is carried stands instead; one by one.
func TestTook(t *testing.T) {
	for _, c := range []struct {
		list    []api.Taken
		e       api.Errno
		one, to order.State
	}{
		{nil, api.OK, state(fixed(1, 5), 0, 0), state(fixed(2, 4), 0, 0)},
		{[]api.Taken{took(1, 60, 40)}, api.OK, state(fixed(1, 5), 60, 40), state(fixed(2, 4), 0, 0)},
		{[]api.Taken{took(1, 60, 40), took(2, 7, 0)}, api.OK, state(fixed(1, 5), 60, 40), state(fixed(2, 4), 7, 0)},
		{[]api.Taken{took(2, 7, 0), took(1, 60, 40), took(2, 5, 3)}, api.OK, state(fixed(1, 5), 60, 40), state(fixed(2, 4), 12, 3)},
		{[]api.Taken{took(1, 60, 40), took(1, 0, 0)}, api.OK, state(fixed(1, 5), 60, 0), state(fixed(2, 4), 0, 0)},
		{[]api.Taken{{Order: 1, Brought: 5, Ordered: 6, Due: 7, Taken: 8, Carried: 9}}, api.OK, state(fixed(1, 5), 8, 9), state(fixed(2, 4), 0, 0)}, // nothing else is looked at
		{[]api.Taken{{Order: 2, Brought: math.MinInt64, Ordered: top + 1, Due: math.MaxInt64}}, api.OK, state(fixed(1, 5), 0, 0), state(fixed(2, 4), 0, 0)},
		{[]api.Taken{took(1, -6, -4)}, api.OK, state(fixed(1, 5), -6, -4), state(fixed(2, 4), 0, 0)}, // what is below 0 may be, too
		{[]api.Taken{took(1, top, top), took(2, -top, -top), took(1, -top, 0)}, api.OK, state(fixed(1, 5), 0, 0), state(fixed(2, 4), -top, -top)},
		{[]api.Taken{took(3, 60, 40)}, api.ErrMissing, order.State{}, order.State{}}, {[]api.Taken{took(1, 60, 40), took(0, 1, 1)}, api.ErrMissing, order.State{}, order.State{}}, {[]api.Taken{took(1, 60, 40), took(2, 7, 0), took(-1, 1, 1)}, api.ErrMissing, order.State{}, order.State{}}, {[]api.Taken{took(3, top+1, top+1)}, api.ErrMissing, order.State{}, order.State{}}, {[]api.Taken{took(3, 1, 1), took(1, top+1, 0)}, api.ErrMissing, order.State{}, order.State{}}, // one by one
		{[]api.Taken{took(1, top+1, 0), took(3, 1, 1)}, api.ErrOverflow, order.State{}, order.State{}}, {[]api.Taken{took(1, -top-1, 0)}, api.ErrOverflow, order.State{}, order.State{}}, {[]api.Taken{took(1, 0, top+1)}, api.ErrOverflow, order.State{}, order.State{}}, {[]api.Taken{took(1, 0, -top-1)}, api.ErrOverflow, order.State{}, order.State{}}, {[]api.Taken{took(1, 60, 40), took(2, top, 0), took(2, 1, 0)}, api.ErrOverflow, order.State{}, order.State{}}, {[]api.Taken{took(1, -top, 0), took(1, -1, 0)}, api.ErrOverflow, order.State{}, order.State{}}, {[]api.Taken{took(1, -5, 0), took(1, top+1, 0)}, api.ErrOverflow, order.State{}, order.State{}}, {[]api.Taken{took(1, math.MaxInt64, math.MinInt64)}, api.ErrOverflow, order.State{}, order.State{}},
	} {
		b := with(t, fixed(1, 5), fixed(2, 4))
		e := b.Took(c.list...)
		want := []order.State{c.to, c.one}
		if c.e != api.OK {
			want = []order.State{state(fixed(2, 4), 0, 0), state(fixed(1, 5), 0, 0)}
		}
		if got := b.List(); e != c.e || !slices.Equal(got, want) {
			t.Errorf("Took(%v): %v, then %v, not %v, %v", c.list, e, got, c.e, want)
		}
	}
	// What was taken before counts, and stays with an error.
	b := with(t, fixed(1, 5))
	b.Took(took(1, top-5, 3))
	if e := b.Took(took(1, 2, 1), took(1, 4, 0)); e != api.ErrOverflow || b.List()[0] != state(fixed(1, 5), top-5, 3) {
		t.Errorf("Took too much: %v, then %v", e, b.List())
	}
	if e := b.Took(took(1, 5, 0)); e != api.OK || b.List()[0] != state(fixed(1, 5), top, 0) {
		t.Errorf("Took the most: %v, then %v", e, b.List())
	}
}

// P17.6: what is owed, of orders with a total alone, each at least nothing.
func TestOwed(t *testing.T) {
	for _, c := range []struct {
		list []api.Order
		took []api.Taken
		owed int64
		n    int
		e    api.Errno
	}{
		{nil, nil, 0, 0, api.OK}, {[]api.Order{fixed(1, 0)}, nil, 0, 1, api.OK}, {[]api.Order{of(7, 2, 5000, 0, 8000)}, []api.Taken{took(7, 4000, 1000)}, 4000, 0, api.OK}, // arrears are owed, too
		{[]api.Order{fixed(1, 0), of(2, 0, 5, 0, 80), fixed(3, 9), of(4, 1, 0, 5, 7)}, []api.Taken{took(1, 900, 0), took(2, 30, 9)}, 57, 2, api.OK}, {[]api.Order{of(1, 0, 5, 0, 80), of(2, 0, 5, 0, 7)}, []api.Taken{took(1, 81, 0)}, 7, 0, api.OK}, {[]api.Order{of(1, 0, 5, 0, 80)}, []api.Taken{took(1, 80, 0)}, 0, 0, api.OK}, {[]api.Order{of(1, 0, 5, 0, 80)}, []api.Taken{took(1, -5, 0)}, 85, 0, api.OK},
		{[]api.Order{of(1, 0, 5, 0, top)}, nil, top, 0, api.OK}, {[]api.Order{of(1, 0, 5, 0, top-1), of(2, 0, 5, 0, 1), fixed(3, 1)}, nil, top, 1, api.OK}, {[]api.Order{of(1, 0, 5, 0, top), of(2, 0, 5, 0, 9)}, []api.Taken{took(1, 9, 0)}, top, 0, api.OK}, {[]api.Order{of(1, 0, 5, 0, 5)}, []api.Taken{took(1, top, 0)}, 0, 0, api.OK},
		{[]api.Order{of(1, 0, 5, 0, top), of(2, 0, 5, 0, 1), fixed(3, 1)}, nil, 0, 0, api.ErrOverflow}, {[]api.Order{of(1, 0, 5, 0, top)}, []api.Taken{took(1, -1, 0)}, 0, 0, api.ErrOverflow}, {[]api.Order{of(2, 0, 5, 0, 1), fixed(3, 1)}, []api.Taken{took(2, -top, 0)}, 0, 0, api.ErrOverflow}, {[]api.Order{of(1, 0, 5, 0, top), of(2, 0, 5, 0, 1), of(3, 0, 5, 0, 4)}, []api.Taken{took(3, top, 0)}, 0, 0, api.ErrOverflow}, // what is too much isn't made up for
	} {
		b := with(t, c.list...)
		if e := b.Took(c.took...); e != api.OK {
			t.Fatalf("Took(%v): %v", c.took, e)
		}
		was := b.List()
		if owed, n, e := b.Owed(); owed != c.owed || n != c.n || e != c.e {
			t.Errorf("Owed of %v: %d, %d, %v, not %d, %d, %v", was, owed, n, e, c.owed, c.n, c.e)
		}
		if !slices.Equal(b.List(), was) {
			t.Errorf("behind Owed of %v: %v", was, b.List())
		}
	}
}

// P17.6: orders that took all, without arrears, are no more.
func TestSweep(t *testing.T) {
	b := with(t, of(1, 5, 9, 0, 80), of(2, 4, 9, 0, 80), of(3, 5, 9, 0, 80), of(4, 0, 9, 0, 80), of(5, 6, 9, 0, 80), fixed(6, 5), of(7, 1, 9, 0, 80), of(8, 9, 9, 0, 80))
	if gone := b.Sweep(); len(gone) != 0 || len(b.List()) != 8 {
		t.Errorf("Sweep of none: %v, then %v", gone, b.List())
	}
	b.Took(took(1, 80, 0), took(2, 80, 1), took(3, 81, 0), took(4, 79, 0), took(5, 0, 80), took(6, 900, 0), took(7, 80, 0), took(8, 80, -1))
	gone := b.Sweep()
	if !slices.Equal(gone, []int{7, 1, 3}) {
		t.Errorf("Sweep: %v", gone)
	}
	want := []order.State{state(of(4, 0, 9, 0, 80), 79, 0), state(of(2, 4, 9, 0, 80), 80, 1), state(fixed(6, 5), 900, 0), state(of(5, 6, 9, 0, 80), 0, 80), state(of(8, 9, 9, 0, 80), 80, -1)}
	if !slices.Equal(b.List(), want) {
		t.Errorf("behind Sweep: %v, not %v", b.List(), want)
	}
	if gone := b.Sweep(); len(gone) != 0 || !slices.Equal(b.List(), want) {
		t.Errorf("Sweep again: %v, then %v", gone, b.List())
	}
	b.Took(took(2, 0, 0), took(8, 0, 0))
	if gone := b.Sweep(); !slices.Equal(gone, []int{2, 8}) {
		t.Errorf("Sweep of what carries no more: %v", gone)
	}
	if _, e := b.Find(2); e != api.ErrMissing {
		t.Errorf("Find of what was swept: %v", e)
	}
	if e := b.Add(fixed(2, 0)); e != api.OK {
		t.Errorf("Add of what was swept: %v", e)
	}
}

// P17.3, P17.4, P17.6: whatever is done, a book is what it must be, and so are its clones; with an error nothing changes.
func TestBook(t *testing.T) {
	r := rand.New(rand.NewSource(17))
	amount := func() int64 {
		if r.Intn(9) == 0 {
			return edges[r.Intn(len(edges))]
		}
		return r.Int63n(40) - 4
	}
	for range 400 {
		b, m := &order.Book{}, model{}
		kept, keptM := b.Clone(), m
		for range r.Intn(60) {
			step := ""
			switch r.Intn(8) {
			case 0, 1, 2:
				o := of(r.Intn(13), r.Intn(4)-r.Intn(15)/14, max(amount(), -1), r.Intn(3)*4000, max(amount(), r.Int63n(2)))
				var want api.Errno
				m, want = m.add(o)
				step = fmt.Sprintf("Add(%v)", o)
				if e := b.Add(o); e != want {
					t.Fatalf("%s: %v, not %v", step, e, want)
				}
			case 3:
				id := r.Intn(13)
				var want api.Errno
				m, want = m.cancel(id)
				step = fmt.Sprintf("Cancel(%d)", id)
				if e := b.Cancel(id); e != want {
					t.Fatalf("%s: %v, not %v", step, e, want)
				}
			case 4, 5:
				var list []api.Taken
				for range r.Intn(4) {
					x := took(r.Intn(13), amount(), max(amount(), 0))
					if len(m) > 0 && r.Intn(9) > 0 {
						x.Order = m[r.Intn(len(m))].ID
					}
					list = append(list, x)
				}
				var want api.Errno
				m, want = m.took(list)
				step = fmt.Sprintf("Took(%v)", list)
				if e := b.Took(list...); e != want {
					t.Fatalf("%s: %v, not %v", step, e, want)
				}
			case 6:
				var want []int
				m, want = m.sweep()
				step = "Sweep"
				if gone := b.Sweep(); !slices.Equal(gone, want) {
					t.Fatalf("Sweep: %v, not %v", gone, want)
				}
			case 7:
				step = "Clone"
				kept, keptM = b.Clone(), slices.Clone(m)
				if r.Intn(2) == 0 { // the clone is what goes on
					b, kept = kept, b
				}
			}
			holds(t, step, b, m)
			holds(t, step+" of another book", kept, keptM)
		}
	}
}

// P17.5: orders as they are read; the first error, word by word.
func TestParse(t *testing.T) {
	for _, c := range []struct {
		line string
		want api.Order
		e    api.Errno
	}{
		{"7 2 50.00 0 80.00", of(7, 2, 5000, 0, 8000), api.OK}, // the document's example
		{"1 0 0 1 0", of(1, 0, 0, 1, 0), api.OK}, {"999999 999 1000000000.00 10000 1000000000", of(999_999, 999, top, full, top), api.OK}, {"7 2 0.01 0 0.00", of(7, 2, 1, 0, 0), api.OK}, {"7 2 50 3 80", of(7, 2, 5000, 3, 8000), api.OK},
		{"", api.Order{}, api.ErrForm}, {"7", api.Order{}, api.ErrForm}, {"7 2 50.00 0", api.Order{}, api.ErrForm}, {"7 2 50.00 0 80.00 1", api.Order{}, api.ErrForm}, {"0 2000 50.00 0", api.Order{}, api.ErrForm}, {"1234567890 2 50.00 0", api.Order{}, api.ErrForm}, {"7 2 2000000000 0 80.00 x", api.Order{}, api.ErrForm},
		{"x 2 50.00 0 80.00", api.Order{}, api.ErrForm}, {"07 2 50.00 0 80.00", api.Order{}, api.ErrForm}, {"7.00 2 50.00 0 80.00", api.Order{}, api.ErrForm}, {"+7 2 50.00 0 80.00", api.Order{}, api.ErrForm}, {"1234567890 2 50.00 0 80.00", api.Order{}, api.ErrRange}, {"7 -0 50.00 0 80.00", api.Order{}, api.ErrForm}, {"7 1234567890 50.00 0 80.00", api.Order{}, api.ErrRange},
		{"7 2 50.0 0 80.00", api.Order{}, api.ErrForm}, {"7 2 -0.00 0 80.00", api.Order{}, api.ErrForm}, {"7 2 1000000000.01 0 80.00", api.Order{}, api.ErrOverflow}, {"7 2 50.00 0.5 80.00", api.Order{}, api.ErrForm}, {"7 2 50.00 1234567890 80.00", api.Order{}, api.ErrRange}, {"7 2 50.00 0 -", api.Order{}, api.ErrForm}, {"7 2 50.00 0 -1000000000.01", api.Order{}, api.ErrOverflow},
		{"1234567890 2 50.0 0 80.00", api.Order{}, api.ErrRange}, {"7 1234567890 50.0 0 80.00", api.Order{}, api.ErrRange}, {"7 2 1000000000.01 x 80.00", api.Order{}, api.ErrOverflow}, {"7 2 50.00 1234567890 x", api.Order{}, api.ErrRange}, {"7 2 50.00 x 1000000000.01", api.Order{}, api.ErrForm}, {"7 2 x 1234567890 80.00", api.Order{}, api.ErrForm}, // the first wrong word
		{"0 2 50.00 0 80.00", api.Order{}, api.ErrRange}, {"1000000 2 50.00 0 80.00", api.Order{}, api.ErrRange}, {"7 -1 50.00 0 80.00", api.Order{}, api.ErrRange}, {"7 1000 50.00 0 80.00", api.Order{}, api.ErrRange}, {"7 2 -50.00 0 80.00", api.Order{}, api.ErrRange}, {"7 2 50.00 0 -80.00", api.Order{}, api.ErrRange}, {"7 2 50.00 -1 80.00", api.Order{}, api.ErrRate}, {"7 2 50.00 10001 80.00", api.Order{}, api.ErrRate}, {"7 2 0.00 0 80.00", api.Order{}, api.ErrForm}, // Check's
		{"0 2 x 0 80.00", api.Order{}, api.ErrForm}, {"0 2 50.00 0 1000000000.01", api.Order{}, api.ErrOverflow}, {"7 2 -1.00 1234567890 80.00", api.Order{}, api.ErrRange}, {"7 2 0.00 10001 x", api.Order{}, api.ErrForm}, // which is behind all words
	} {
		if got, e := order.Parse(strings.Fields(c.line)...); got != c.want || e != c.e {
			t.Errorf("Parse(%q): %v, %v, not %v, %v", c.line, got, e, c.want, c.e)
		}
	}
	for i := range 5 { // any bytes, in each place
		for b := range 256 {
			words := []string{"7", "2", "5", "1", "8"}
			words[i] = string([]byte{byte(b)})
			got, e := order.Parse(words...)
			if digit := b >= '0' && b <= '9'; digit && e == api.ErrForm || !digit && (e != api.ErrForm || got != api.Order{}) {
				t.Errorf("Parse(%q): %v, %v", words, got, e)
			}
		}
		words := []string{"7", "2", "5", "1", "8"}
		words[i] = ""
		if got, e := order.Parse(words...); got != (api.Order{}) || e != api.ErrForm {
			t.Errorf("Parse(%q): %v, %v", words, got, e)
		}
	}
}

// P17.6, P17.5: an order's words are read as it.
func TestWords(t *testing.T) {
	for _, c := range []struct {
		o    api.Order
		want []string
	}{
		{of(7, 2, 5000, 0, 8000), []string{"7", "2", "50.00", "0", "80.00"}}, {of(999_999, 999, top, full, top), []string{"999999", "999", "1000000000.00", "10000", "1000000000.00"}}, {of(1, 0, 0, 1, 0), []string{"1", "0", "0.00", "1", "0.00"}}, {of(1, 2, 3, 4, 5), []string{"1", "2", "0.03", "4", "0.05"}},
		{of(-1, -2, -3, -4, math.MinInt64), []string{"-1", "-2", "-0.03", "-4", "-92233720368547758.08"}}, // also of what may not be
	} {
		if got := order.Words(c.o); !slices.Equal(got, c.want) {
			t.Errorf("Words(%v): %q, not %q", c.o, got, c.want)
		}
	}
	orders(func(o api.Order) {
		words := order.Words(o)
		if len(words) != 5 {
			t.Fatalf("Words(%v): %q", o, words)
		}
		if got, e := order.Parse(words...); (got == o && e == api.OK) != (checked(o) == api.OK) || e != api.OK && got != (api.Order{}) {
			t.Errorf("Parse(%q): %v, %v, of %v", words, got, e, o)
		}
	})
}

// spoil changes a list, and its spare room.
func spoil(lists ...[]order.State) {
	for _, list := range lists {
		for i := range list[:cap(list)] {
			list[:cap(list)][i] = state(fixed(-77, -77), -77, -77)
		}
	}
}

// P2: what is handed in stays as it is, its spare room too, and isn't kept; no two answers, and no two books, share anything.
func TestMemory(t *testing.T) {
	b := with(t, fixed(1, 5), of(2, 4, 0, 9, 80), fixed(3, 4))
	room := []api.Taken{took(1, 60, 40), took(2, 80, 0), took(9, -77, -77), took(9, -77, -77)}
	was := slices.Clone(room)
	if e := b.Took(room[:2]...); e != api.OK {
		t.Fatal(e)
	}
	want := []order.State{state(of(2, 4, 0, 9, 80), 80, 0), state(fixed(3, 4), 0, 0), state(fixed(1, 5), 60, 40)}
	first, second, twin := b.List(), b.List(), b.Clone()
	spoil(first, twin.List())
	clear(room)
	if !slices.Equal(b.List(), want) || !slices.Equal(second, want) || !slices.Equal(twin.List(), want) {
		t.Errorf("a list that was handed out is shared: %v, %v, %v", b.List(), second, twin.List())
	}
	copy(room, was)
	twin.Took(room[:1]...)
	twin.Cancel(3)
	twin.Add(fixed(5, 0))
	if !slices.Equal(room, was) || !slices.Equal(b.List(), want) {
		t.Errorf("a clone's book is shared, or what is handed in was changed: %v, %v", b.List(), room)
	}
	other := b.Clone()
	b.Cancel(1)
	b.Sweep()
	b.Add(fixed(6, 0))
	if !slices.Equal(other.List(), want) || !slices.Equal(second, want) {
		t.Errorf("a book is shared with its clone: %v, %v", other.List(), second)
	}
	words := []string{"7", "2", "50.00", "0", "80.00", "rest"}
	told, _ := order.Parse(words[:5]...)
	if told != of(7, 2, 5000, 0, 8000) || words[4] != "80.00" || words[5] != "rest" {
		t.Errorf("what is handed in was changed: %v, %q", told, words)
	}
	one, two := order.Words(told), order.Words(told)
	clear(one[:cap(one)])
	if !slices.Equal(two, words[:5]) {
		t.Errorf("words are shared: %q", two)
	}
}

// P1, P2: no call panics, whatever it is given; beside an error all is zero; the same calls answer the same.
func TestEnds(t *testing.T) {
	r := rand.New(rand.NewSource(1))
	amount := func() int64 { return edges[r.Intn(len(edges))] }
	pick := func(list []int) int { return list[r.Intn(len(list))] }
	texts := []string{"", "7", "2", "50.00", "-", "\xff\n", "999999999999999999999999", "-0", "1.0", "10000", "a b"}
	for range 20_000 {
		o := of(pick(ids), pick(priorities), amount(), pick(rates), amount())
		s, net := state(o, amount(), amount()), amount()
		list := []api.Taken{took(pick([]int{1, 2, 7}), amount(), amount()), took(pick(ids), amount(), amount())}[r.Intn(3)/2:]
		words := make([]string, r.Intn(7))
		for i := range words {
			words[i] = texts[r.Intn(len(texts))]
		}
		told := func() string {
			defer func() {
				if why := recover(); why != nil {
					t.Errorf("%v, %d, %v, %q: %v", s, net, list, words, why)
				}
			}()
			got, e := s.Ordered(net)
			parsed, e2 := order.Parse(words...)
			b := with(t, fixed(1, 3), of(2, 3, 5, 5, 5))
			e3, e4 := b.Add(o), b.Took(list...)
			found, e5 := b.Find(o.ID)
			owed, n, e6 := b.Owed()
			if e != api.OK && got != 0 || e2 != api.OK && parsed != (api.Order{}) || e5 != api.OK && found != (order.State{}) || e6 != api.OK && (owed != 0 || n != 0) {
				t.Errorf("beside an error: %d, %v, %v, %d, %d", got, parsed, found, owed, n)
			}
			text := fmt.Sprint(order.Check(o), s.Left(), s.Over(), got, e, parsed, e2, e3, e4, found, e5, owed, n, e6, order.Words(o))
			return text + fmt.Sprint(b.Sweep(), b.Cancel(o.ID), b.List(), b.Clone().List())
		}
		if told() != told() {
			t.Errorf("the same calls answer otherwise: %v, %d, %v, %q", s, net, list, words)
		}
	}
}
