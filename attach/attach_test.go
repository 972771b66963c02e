package attach_test

import (
	"fmt"
	"math"
	"math/rand"
	"slices"
	"testing"

	"stipend/api"
	"stipend/attach"
	"stipend/order"
)

const (
	top  = 100_000_000_000 // as the document tells them
	full = 10_000
)

// edges: numbers at which something may go over.
var edges = []int64{math.MinInt64, math.MinInt64 + 1, -top * 2, -top - 1, -top, -top + 1, -130, -1, 0, 1, 50, 130, top / 2, top - 1, top, top + 1, top * 2, math.MaxInt64 - 1, math.MaxInt64}

// may: may amounts be?
func may(list ...int64) bool {
	return !slices.ContainsFunc(list, func(x int64) bool { return x < -top || x > top })
}

// of: an order of these, of its number as its priority.
func of(id int, amount int64, rate int, total int64) api.Order {
	return api.Order{ID: id, Priority: id, Amount: amount, Rate: rate, Total: total}
}

// state: an order that took so much, with arrears.
func state(o api.Order, taken, arrears int64) order.State {
	return order.State{Order: o, Taken: taken, Arrears: arrears}
}

// came: what an order came to.
func came(id int, brought, ordered, due, taken, carried int64) api.Taken {
	return api.Taken{Order: id, Brought: brought, Ordered: ordered, Due: due, Taken: taken, Carried: carried}
}

// with: a book of these orders.
func with(t *testing.T, list ...api.Order) *order.Book {
	t.Helper()
	b := &order.Book{}
	for _, o := range list {
		if e := b.Add(o); e != api.OK {
			t.Fatalf("Add(%v): %v", o, e)
		}
	}
	return b
}

// serves tells a test's fault, if Serve answers otherwise.
func serves(t *testing.T, net, protected int64, list []order.State, want []api.Taken, left int64, wantE api.Errno) {
	t.Helper()
	got, rest, e := attach.Serve(net, protected, list...)
	if !slices.Equal(got, want) || rest != left || e != wantE {
		t.Errorf("Serve(%d, %d, %v): %v, %d, %v, not %v, %d, %v", net, protected, list, got, rest, e, want, left, wantE)
	}
}

// P18.1: what each one comes to, and what is left.
func TestServe(t *testing.T) {
	one, two := state(of(1, 50, 0, 0), 0, 0), state(of(2, 50, 0, 0), 0, 5)
	for _, c := range []struct {
		net, protected int64
		list           []order.State
		want           []api.Taken
		left           int64
	}{
		{130, 50, []order.State{one, two}, []api.Taken{came(1, 0, 50, 50, 50, 0), came(2, 5, 50, 55, 30, 25)}, 50}, // the document's example
		{130, 50, []order.State{two, one}, []api.Taken{came(2, 5, 50, 55, 55, 0), came(1, 0, 50, 50, 25, 25)}, 50}, // as they are told, whatever their priority
		{130, 50, []order.State{one, one}, []api.Taken{came(1, 0, 50, 50, 50, 0), came(1, 0, 50, 50, 30, 20)}, 50},
		{130, 50, nil, nil, 130}, {-130, 50, nil, nil, -130}, {0, 0, nil, nil, 0}, {top, top, nil, nil, top}, {-top, top, nil, nil, -top},
		{200, 50, []order.State{one, two}, []api.Taken{came(1, 0, 50, 50, 50, 0), came(2, 5, 50, 55, 55, 0)}, 95}, {155, 50, []order.State{one, two}, []api.Taken{came(1, 0, 50, 50, 50, 0), came(2, 5, 50, 55, 55, 0)}, 50}, {154, 50, []order.State{one, two}, []api.Taken{came(1, 0, 50, 50, 50, 0), came(2, 5, 50, 55, 54, 1)}, 50},
		{99, 50, []order.State{one, two}, []api.Taken{came(1, 0, 50, 50, 49, 1), came(2, 5, 50, 55, 0, 55)}, 50}, {50, 50, []order.State{one, two}, []api.Taken{came(1, 0, 50, 50, 0, 50), came(2, 5, 50, 55, 0, 55)}, 50}, {49, 50, []order.State{one}, []api.Taken{came(1, 0, 50, 50, 0, 50)}, 49}, {0, 50, []order.State{one}, []api.Taken{came(1, 0, 50, 50, 0, 50)}, 0}, {-7, 0, []order.State{one}, []api.Taken{came(1, 0, 50, 50, 0, 50)}, -7}, {-top, top, []order.State{two}, []api.Taken{came(2, 5, 50, 55, 0, 55)}, -top},
		{130, 0, []order.State{one, two}, []api.Taken{came(1, 0, 50, 50, 50, 0), came(2, 5, 50, 55, 55, 0)}, 25}, {80, 0, []order.State{one, two}, []api.Taken{came(1, 0, 50, 50, 50, 0), came(2, 5, 50, 55, 30, 25)}, 0},
		// A rate is of all the net pay, not of what is left, nor of what isn't protected.
		{100, 20, []order.State{state(of(1, 50, 0, 0), 0, 0), state(of(2, 3, 2500, 0), 0, 0), state(of(3, 0, 1000, 0), 0, 0)}, []api.Taken{came(1, 0, 50, 50, 50, 0), came(2, 0, 28, 28, 28, 0), came(3, 0, 10, 10, 2, 8)}, 20}, {109, 0, []order.State{state(of(3, 0, 1000, 0), 0, 0)}, []api.Taken{came(3, 0, 10, 10, 10, 0)}, 99}, {-100, 0, []order.State{state(of(3, 7, 1000, 0), 0, 0)}, []api.Taken{came(3, 0, 7, 7, 0, 7)}, -100},
		// What an order took, and its arrears, count up to its total; arrears are due behind that, too.
		{1000, 0, []order.State{state(of(1, 50, 0, 80), 40, 10), state(of(2, 50, 0, 80), 80, 0), state(of(3, 50, 0, 80), 60, 20)}, []api.Taken{came(1, 10, 30, 40, 40, 0), came(2, 0, 0, 0, 0, 0), came(3, 20, 0, 20, 20, 0)}, 940},
		// One that has nothing to take is not short.
		{60, 0, []order.State{state(of(1, 50, 0, 80), 80, 0), state(of(2, 50, 0, 0), 0, 0), state(of(3, 50, 0, 0), 0, 0), state(of(4, 50, 0, 9), 9, 0)}, []api.Taken{came(1, 0, 0, 0, 0, 0), came(2, 0, 50, 50, 50, 0), came(3, 0, 50, 50, 10, 40), came(4, 0, 0, 0, 0, 0)}, 0},
		{top, 0, []order.State{state(of(1, top, 0, 0), top, 0), state(of(2, 0, full, 0), 0, 0)}, []api.Taken{came(1, 0, top, top, top, 0), came(2, 0, top, top, 0, top)}, 0}, {top, top, []order.State{state(of(1, top-1, 0, 0), 0, 1)}, []api.Taken{came(1, 1, top-1, top, 0, top)}, top}, {top, top - 3, []order.State{state(of(1, 0, 0, 0), 0, top)}, []api.Taken{came(1, top, 0, top, 3, top-3)}, top - 3},
	} {
		serves(t, c.net, c.protected, c.list, c.want, c.left, api.OK)
	}
	many := slices.Repeat([]order.State{one}, 1000) // as many as are told
	got, left, e := attach.Serve(20_030, 0, many...)
	if len(got) != 1000 || left != 0 || e != api.OK || got[400] != came(1, 0, 50, 50, 30, 20) || got[399] != came(1, 0, 50, 50, 50, 0) || got[999] != came(1, 0, 50, 50, 0, 50) {
		t.Errorf("Serve of many: %d, %d, %v", len(got), left, e)
	}
}

// P18.1: what may not be is told ahead of what is below 0, and that ahead of what an order tells; then order by order.
func TestServeRefuses(t *testing.T) {
	fine, wrong := state(of(1, 50, 0, 0), 0, 0), state(of(2, 50, full+1, 0), 0, 0)
	much, late := state(of(3, top, 1, 0), 0, 0), state(of(4, 50, 0, 0), 0, top)
	for _, c := range []struct {
		net, protected int64
		list           []order.State
		e              api.Errno
	}{
		{top + 1, 0, nil, api.ErrOverflow}, {-top - 1, 0, nil, api.ErrOverflow}, {0, top + 1, nil, api.ErrOverflow}, {0, -top - 1, nil, api.ErrOverflow}, {math.MinInt64, 0, nil, api.ErrOverflow}, {0, math.MinInt64, nil, api.ErrOverflow}, {top + 1, -1, nil, api.ErrOverflow}, {math.MinInt64, math.MaxInt64, []order.State{wrong}, api.ErrOverflow},
		{0, -1, nil, api.ErrRange}, {0, -top, nil, api.ErrRange}, {top, -1, []order.State{wrong}, api.ErrRange}, {top, -1, []order.State{much}, api.ErrRange},
		{130, 0, []order.State{wrong}, api.ErrRate}, {130, 0, []order.State{fine, wrong, late}, api.ErrRate}, {130, 0, []order.State{fine, late, wrong}, api.ErrOverflow}, {full, 0, []order.State{much}, api.ErrOverflow}, {full - 1, 0, []order.State{late}, api.ErrOverflow}, {-130, 50, []order.State{fine, fine, late}, api.ErrOverflow}, {0, 0, []order.State{fine, late}, api.ErrOverflow}, // also where nothing can be taken any more
		{0, 0, []order.State{state(of(4, 1, 0, 0), 0, top)}, api.ErrOverflow}, {0, 0, []order.State{state(of(4, 1, 0, 0), 0, top+1)}, api.ErrOverflow},
	} {
		serves(t, c.net, c.protected, c.list, nil, 0, c.e)
	}
}

// served: what Serve must tell: each order takes a coin after the other, while something is due, and more is left than is protected.
func served(net, protected int64, list []order.State) ([]api.Taken, int64) {
	left := net
	var all []api.Taken
	for _, s := range list {
		ordered := max(net, 0)*int64(s.Rate)/full + s.Amount
		if s.Total != 0 {
			ordered = max(min(ordered, s.Total-s.Taken-s.Arrears), 0)
		}
		x := came(s.ID, s.Arrears, ordered, ordered+s.Arrears, 0, ordered+s.Arrears)
		for x.Carried > 0 && left > protected {
			x.Taken++
			x.Carried--
			left--
		}
		all = append(all, x)
	}
	return all, left
}

// keeps tells a test's fault, if what P18.2 tells doesn't hold.
func keeps(t *testing.T, net, protected int64, all []api.Taken, left int64) {
	t.Helper()
	short, sum := false, int64(0)
	for i, x := range all {
		if x.Brought+x.Ordered != x.Taken+x.Carried || short && x.Taken != 0 || x.Taken < 0 || x.Carried < 0 {
			t.Errorf("of %d, %d: %v, at %d", net, protected, all, i)
		}
		short, sum = short || x.Carried > 0, sum+x.Taken
	}
	if left < min(net, protected) || left != net-sum {
		t.Errorf("of %d, %d: %v, %d is left", net, protected, all, left)
	}
	if !attach.Right(all...) {
		t.Errorf("of %d, %d: %v isn't Right", net, protected, all)
	}
	if got, e := attach.Sum(all...); got != sum || e != api.OK {
		t.Errorf("of %d, %d: %v, Sum %d, %v", net, protected, all, got, e)
	}
}

// P18.1, P18.2: coin by coin, of all small net pays.
func TestServeMany(t *testing.T) {
	r := rand.New(rand.NewSource(18))
	for range 3000 {
		var list []order.State
		for range r.Intn(7) {
			s := state(of(r.Intn(9)+1, r.Int63n(30)*r.Int63n(2), r.Intn(3)*r.Intn(full/2+1), r.Int63n(60)*r.Int63n(2)), r.Int63n(30), r.Int63n(20)*r.Int63n(2))
			list = append(list, s)
		}
		protected := r.Int63n(40)
		for net := int64(-5); net < 150; net += 1 + r.Int63n(4) {
			want, left := served(net, protected, list)
			serves(t, net, protected, list, want, left, api.OK)
			keeps(t, net, protected, want, left)
		}
	}
}

// P18.2: at the greatest amounts, too.
func TestServeEdges(t *testing.T) {
	amounts := slices.DeleteFunc(slices.Clone(edges), func(x int64) bool { return !may(x) })
	orders := slices.DeleteFunc(slices.Clone(amounts), func(x int64) bool { return x < 0 })
	n := 0
	for _, net := range amounts {
		for _, protected := range orders {
			for _, amount := range orders {
				for _, arrears := range orders {
					for _, rate := range []int{0, 2500, full} {
						list := []order.State{state(of(1, amount, rate, 0), 0, arrears), state(of(2, 50, 0, 0), 0, 5), state(of(3, 0, rate, arrears), 0, 0)}
						all, left, e := attach.Serve(net, protected, list...)
						if part := max(net, 0) / full * int64(rate); part+amount > top || part+amount+arrears > top {
							if len(all) != 0 || left != 0 || e != api.ErrOverflow {
								t.Errorf("Serve(%d, %d, %v): %v, %d, %v", net, protected, list, all, left, e)
							}
							continue
						}
						if e == api.OK {
							keeps(t, net, protected, all, left)
							n++
						}
					}
				}
			}
		}
	}
	if n < 1000 {
		t.Errorf("only %d were served", n)
	}
}

// P18.3: a book's orders are served in their order, and keep what they took.
func TestBook(t *testing.T) {
	b := with(t, of(7, 50, 0, 80), of(3, 40, 0, 0))
	for i, c := range []struct {
		net, protected int64
		want           []api.Taken
		left           int64
		then           []order.State
	}{
		{100, 30, []api.Taken{came(3, 0, 40, 40, 40, 0), came(7, 0, 50, 50, 30, 20)}, 30, []order.State{state(of(3, 40, 0, 0), 40, 0), state(of(7, 50, 0, 80), 30, 20)}},
		{60, 30, []api.Taken{came(3, 0, 40, 40, 30, 10), came(7, 20, 30, 50, 0, 50)}, 30, []order.State{state(of(3, 40, 0, 0), 70, 10), state(of(7, 50, 0, 80), 30, 50)}},
		{0, 0, []api.Taken{came(3, 10, 40, 50, 0, 50), came(7, 50, 0, 50, 0, 50)}, 0, []order.State{state(of(3, 40, 0, 0), 70, 50), state(of(7, 50, 0, 80), 30, 50)}},
		{200, 30, []api.Taken{came(3, 50, 40, 90, 90, 0), came(7, 50, 0, 50, 50, 0)}, 60, []order.State{state(of(3, 40, 0, 0), 160, 0), state(of(7, 50, 0, 80), 80, 0)}},
		{200, 30, []api.Taken{came(3, 0, 40, 40, 40, 0), came(7, 0, 0, 0, 0, 0)}, 160, []order.State{state(of(3, 40, 0, 0), 200, 0), state(of(7, 50, 0, 80), 80, 0)}},
	} {
		got, left, e := attach.Book(c.net, c.protected, b)
		if !slices.Equal(got, c.want) || left != c.left || e != api.OK {
			t.Errorf("Book %d: %v, %d, %v, not %v, %d", i, got, left, e, c.want, c.left)
		}
		if list := b.List(); !slices.Equal(list, c.then) {
			t.Errorf("behind Book %d: %v, not %v", i, list, c.then)
		}
	}
	if gone := b.Sweep(); !slices.Equal(gone, []int{7}) {
		t.Errorf("Sweep: %v", gone)
	}
	if got, left, e := attach.Book(-5, 9, &order.Book{}); len(got) != 0 || left != -5 || e != api.OK {
		t.Errorf("Book of no orders: %v, %d, %v", got, left, e)
	}
}

// P18.3: with an error, of Serve or of Took, nothing changes.
func TestBookRefuses(t *testing.T) {
	for _, c := range []struct {
		net, protected int64
		took           []api.Taken
		e              api.Errno
	}{
		{top + 1, 0, nil, api.ErrOverflow}, {-top - 1, 0, nil, api.ErrOverflow}, {130, top + 1, nil, api.ErrOverflow}, {130, -1, nil, api.ErrRange}, {top + 1, -1, nil, api.ErrOverflow},
		{130, 0, []api.Taken{{Order: 2, Carried: top}}, api.ErrOverflow}, {0, 0, []api.Taken{{Order: 2, Carried: top}}, api.ErrOverflow}, {0, -1, []api.Taken{{Order: 2, Carried: top}}, api.ErrRange}, // what is due may not be
		{130, 0, []api.Taken{{Order: 2, Taken: top}}, api.ErrOverflow}, {51, 0, []api.Taken{{Order: 2, Taken: top}}, api.ErrOverflow}, {130, 0, []api.Taken{{Order: 2, Taken: top - 49}}, api.ErrOverflow}, // what it took in all may not be
	} {
		b := with(t, of(1, 50, 0, 0), of(2, 50, 0, 0))
		if e := b.Took(c.took...); e != api.OK {
			t.Fatal(e)
		}
		was := b.List()
		got, left, e := attach.Book(c.net, c.protected, b)
		if len(got) != 0 || left != 0 || e != c.e {
			t.Errorf("Book(%d, %d) behind %v: %v, %d, %v, not %v", c.net, c.protected, c.took, got, left, e, c.e)
		}
		if !slices.Equal(b.List(), was) {
			t.Errorf("behind Book(%d, %d): %v, not %v", c.net, c.protected, b.List(), was)
		}
	}
	b := with(t, of(1, 50, 0, 0), of(2, 50, 0, 0))
	b.Took(api.Taken{Order: 2, Taken: top - 50})
	if got, left, e := attach.Book(130, 0, b); len(got) != 2 || left != 30 || e != api.OK || b.List()[1].Taken != top {
		t.Errorf("Book up to the most: %v, %d, %v, then %v", got, left, e, b.List())
	}
}

// P18.3: of all periods together an order with a total takes, and carries, no more than that.
func TestBookMany(t *testing.T) {
	r := rand.New(rand.NewSource(183))
	for range 500 {
		b := &order.Book{}
		for id := range r.Intn(order.Most + 1) {
			o := of(id+1, r.Int63n(40), r.Intn(full/3), max(r.Int63n(300)-60, 0))
			o.Priority = r.Intn(4)
			b.Add(o)
		}
		for range 20 {
			net, protected, was := r.Int63n(300)-20, r.Int63n(100), b.List()
			want, wantLeft := served(net, protected, was)
			got, left, e := attach.Book(net, protected, b)
			if !slices.Equal(got, want) || left != wantLeft || e != api.OK {
				t.Fatalf("Book(%d, %d) of %v: %v, %d, %v, not %v, %d", net, protected, was, got, left, e, want, wantLeft)
			}
			for i, s := range b.List() {
				if s.Order != was[i].Order || s.Taken != was[i].Taken+want[i].Taken || s.Arrears != want[i].Carried {
					t.Fatalf("behind Book(%d, %d) of %v: %v", net, protected, was, s)
				}
				if s.Total != 0 && s.Taken+s.Arrears > s.Total {
					t.Fatalf("behind Book(%d, %d): %v is beyond its total", net, protected, s)
				}
			}
		}
	}
}

// takes: what orders took, of which nothing else is told.
func takes(list ...int64) []api.Taken {
	var all []api.Taken
	for i, x := range list {
		all = append(all, api.Taken{Order: i, Brought: top + 1, Due: math.MinInt64, Taken: x, Carried: -5})
	}
	return all
}

// P18.4: what orders took together, one by one.
func TestSum(t *testing.T) {
	for _, c := range []struct {
		list []int64
		want int64
		e    api.Errno
	}{
		{nil, 0, api.OK}, {[]int64{50, 30}, 80, api.OK}, {[]int64{7}, 7, api.OK}, {[]int64{5, -7, 0}, -2, api.OK}, {[]int64{top}, top, api.OK}, {[]int64{top - 1, 1}, top, api.OK}, {[]int64{-top, top, top}, top, api.OK}, {slices.Repeat([]int64{3}, 100), 300, api.OK},
		{[]int64{top, 1}, 0, api.ErrOverflow}, {[]int64{top, 1, -1}, 0, api.ErrOverflow}, {[]int64{-top, -1, 1}, 0, api.ErrOverflow}, {[]int64{top + 1}, 0, api.ErrOverflow}, {[]int64{-5, top + 1}, 0, api.ErrOverflow}, {[]int64{-top - 1}, 0, api.ErrOverflow}, {[]int64{math.MaxInt64, math.MinInt64}, 0, api.ErrOverflow}, {[]int64{1, math.MaxInt64}, 0, api.ErrOverflow},
	} {
		if got, e := attach.Sum(takes(c.list...)...); got != c.want || e != c.e {
			t.Errorf("Sum of %v: %d, %v, not %d, %v", c.list, got, e, c.want, c.e)
		}
	}
}

// P18.4: what orders may have taken, and each thing that they may not.
func TestRight(t *testing.T) {
	full, short, none := came(1, 0, 50, 50, 50, 0), came(2, 5, 50, 55, 30, 25), came(3, 5, 50, 55, 0, 55)
	idle := came(4, 0, 0, 0, 0, 0)
	for _, c := range []struct {
		list []api.Taken
		want bool
	}{
		{nil, true}, {[]api.Taken{full, short}, true}, {[]api.Taken{full}, true}, {[]api.Taken{short}, true}, {[]api.Taken{none}, true}, {[]api.Taken{idle}, true}, {[]api.Taken{full, full, short, none, none, idle}, true}, {[]api.Taken{idle, full, none, none}, true}, {[]api.Taken{full, idle, short}, true}, {[]api.Taken{{}}, true},
		{[]api.Taken{short, full}, false}, {[]api.Taken{short, short}, false}, {[]api.Taken{none, full}, false}, {[]api.Taken{none, short}, false}, {[]api.Taken{full, short, idle, full}, false}, {[]api.Taken{full, none, none, short}, false}, // behind one that is short
		{[]api.Taken{came(1, 5, 50, 54, 54, 0)}, false}, {[]api.Taken{came(1, 5, 50, 56, 56, 0)}, false}, {[]api.Taken{came(1, 5, 50, 55, 30, 24)}, false}, {[]api.Taken{came(1, 5, 50, 55, 30, 26)}, false}, {[]api.Taken{came(1, 5, 50, 54, 30, 25)}, false}, {[]api.Taken{full, came(1, 5, 50, 54, 30, 24)}, false}, {[]api.Taken{came(1, 5, 50, 54, 30, 24), full}, false}, {[]api.Taken{came(1, 5, 50, 50, 50, 0)}, false}, {[]api.Taken{came(1, 0, 50, 50, 50, 5)}, false}, // something is lost, or comes to it
		{[]api.Taken{came(1, 5, 50, 55, -1, 56)}, false}, {[]api.Taken{full, came(1, 0, 0, 0, -1, 1)}, false}, {[]api.Taken{full, came(1, 0, -1, -1, -1, 0)}, false}, {[]api.Taken{short, came(1, 0, 5, 5, -1, 6)}, false}, // taken below 0
		{[]api.Taken{came(1, 5, -50, -45, 0, -45), full}, true}, {[]api.Taken{came(1, -5, 50, 45, 45, 0), full}, true}, {[]api.Taken{came(1, 0, 50, 50, 60, -10), full}, true}, {[]api.Taken{came(0, top, top, top*2, top, top)}, true}, {[]api.Taken{came(-1, -top, top, 0, 0, 0), full}, true}, // more isn't asked
	} {
		if got := attach.Right(c.list...); got != c.want {
			t.Errorf("Right(%v): %v", c.list, got)
		}
	}
	// Of what was served each amount that is one more, or one less, is wrong.
	all, _, _ := attach.Serve(130, 50, state(of(1, 50, 0, 0), 0, 0), state(of(2, 50, 0, 0), 0, 5), state(of(3, 50, 0, 0), 0, 0))
	for i := range all {
		for _, to := range []*int64{&all[i].Brought, &all[i].Ordered, &all[i].Due, &all[i].Taken, &all[i].Carried} {
			for _, by := range []int64{1, -1} {
				*to += by
				if attach.Right(all...) {
					t.Errorf("Right(%v)", all)
				}
				*to -= by
			}
		}
	}
	if !attach.Right(all...) {
		t.Errorf("not Right(%v)", all)
	}
}

// P18.4: all lists of three of small amounts.
func TestRightMany(t *testing.T) {
	var some []api.Taken
	for i := range 3 * 3 * 3 * 4 * 3 {
		some = append(some, came(1, int64(i%3)-1, int64(i/3%3)-1, int64(i/9%3)-1, int64(i/27%4)-1, int64(i/108%3)-1))
	}
	r := rand.New(rand.NewSource(184))
	yes := 0
	check := func(list ...api.Taken) {
		want, behind := true, false
		for _, x := range list {
			want = want && x.Brought+x.Ordered == x.Due && x.Due == x.Taken+x.Carried && x.Taken >= 0 && (!behind || x.Taken == 0)
			behind = behind || x.Taken < x.Due
		}
		if got := attach.Right(list...); got != want {
			t.Errorf("Right(%v): %v", list, got)
		}
		if want {
			yes++
		}
	}
	for _, a := range some {
		check(a)
		for _, b := range some {
			check(a, b)
		}
	}
	right := slices.DeleteFunc(slices.Clone(some), func(x api.Taken) bool { return !attach.Right(x) })
	for _, a := range right {
		for _, b := range right {
			check(a, b, right[r.Intn(len(right))])
		}
	}
	if yes < 100 {
		t.Errorf("only %d were right", yes)
	}
}

// P18.4: an order's words behind its number, as amounts are written.
func TestLine(t *testing.T) {
	for _, c := range []struct {
		x    api.Taken
		want []string
	}{
		{came(7, 1000, 3000, 4000, 2550, 1450), []string{"10.00", "30.00", "25.50", "14.50"}}, {api.Taken{}, []string{"0.00", "0.00", "0.00", "0.00"}}, {came(1, 1, 2, 99, 3, 4), []string{"0.01", "0.02", "0.03", "0.04"}}, {came(1, top, -top, 0, -1, 123_456), []string{"1000000000.00", "-1000000000.00", "-0.01", "1234.56"}},
		{came(-1, math.MinInt64, math.MaxInt64, 5, 0, 5), []string{"-92233720368547758.08", "92233720368547758.07", "0.00", "0.05"}},
	} {
		if got := attach.Line(c.x); !slices.Equal(got, c.want) {
			t.Errorf("Line(%v): %q, not %q", c.x, got, c.want)
		}
	}
}

// P2: what is handed in stays as it is, its spare room too, and isn't kept; no two answers share anything.
func TestMemory(t *testing.T) {
	room := []order.State{state(of(1, 50, 0, 0), 0, 0), state(of(2, 50, 0, 0), 0, 5), state(of(9, 9, 9, 9), 9, 9)}
	was := slices.Clone(room)
	first, _, _ := attach.Serve(130, 50, room[:2]...)
	second, _, _ := attach.Serve(130, 50, room[:2]...)
	clear(first[:cap(first)])
	want := []api.Taken{came(1, 0, 50, 50, 50, 0), came(2, 5, 50, 55, 30, 25)}
	if !slices.Equal(second, want) || !slices.Equal(room, was) {
		t.Errorf("memory is shared: %v, %v", second, room)
	}
	b := with(t, of(1, 50, 0, 0), of(2, 50, 0, 0))
	twin := b.Clone()
	told, _, _ := attach.Book(130, 50, b)
	then := b.List()
	clear(told[:cap(told)])
	if !slices.Equal(b.List(), then) || twin.List()[0].Taken != 0 {
		t.Errorf("memory is shared with a book: %v, %v", b.List(), twin.List())
	}
	list := append(slices.Clone(want), came(9, 9, 9, 9, 9, 9))
	attach.Sum(list[:2]...)
	attach.Right(list[:2]...)
	if !slices.Equal(list[:2], want) || list[2] != came(9, 9, 9, 9, 9, 9) {
		t.Errorf("what is handed in was changed: %v", list)
	}
	one, two := attach.Line(list[0]), attach.Line(list[0])
	clear(one[:cap(one)])
	if !slices.Equal(two, []string{"0.00", "0.50", "0.50", "0.00"}) {
		t.Errorf("words are shared: %q", two)
	}
}

// P1, P2: no call panics, whatever it is given; beside an error all is zero; the same calls answer the same.
func TestEnds(t *testing.T) {
	r := rand.New(rand.NewSource(2))
	amount := func() int64 { return edges[r.Intn(len(edges))] }
	for range 20_000 {
		net, protected := amount(), amount()
		list := make([]order.State, r.Intn(4))
		for i := range list {
			list[i] = state(of(r.Intn(4)-1, amount(), []int{math.MinInt, -1, 0, 1, 2500, full, full + 1, math.MaxInt}[r.Intn(8)], amount()), amount(), amount())
		}
		all := make([]api.Taken, r.Intn(4))
		for i := range all {
			all[i] = came(r.Intn(4)-1, amount(), amount(), amount(), amount(), amount())
		}
		told := func() string {
			defer func() {
				if why := recover(); why != nil {
					t.Errorf("%d, %d, %v, %v: %v", net, protected, list, all, why)
				}
			}()
			b := with(t, of(1, 50, 0, 0), of(2, 50, 2500, 80))
			b.Took(all...)
			got, left, e := attach.Serve(net, protected, list...)
			kept, rest, e2 := attach.Book(net, protected, b)
			sum, e3 := attach.Sum(all...)
			if e != api.OK && (len(got) != 0 || left != 0) || e2 != api.OK && (len(kept) != 0 || rest != 0) || e3 != api.OK && sum != 0 {
				t.Errorf("beside an error: %v, %d, %v, %d, %d", got, left, kept, rest, sum)
			}
			text := fmt.Sprint(got, left, e, kept, rest, e2, sum, e3, b.List(), attach.Right(all...))
			for _, x := range all {
				text += fmt.Sprint(attach.Line(x))
			}
			return text
		}
		if told() != told() {
			t.Errorf("the same calls answer otherwise: %d, %d, %v, %v", net, protected, list, all)
		}
	}
}
