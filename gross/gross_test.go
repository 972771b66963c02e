package gross_test

import (
	"fmt"
	"math"
	"math/rand"
	"slices"
	"testing"

	"stipend/api"
	"stipend/gross"
	"stipend/keep"
	"stipend/run"
	"stipend/share"
	"stipend/window"
)

// net: the net pay of an amount.
func net(t *testing.T, p *run.Employee, h int64) int64 {
	t.Helper()
	s, e := p.Try(h)
	must(t, e)
	return s.Net
}

// cost: that of an amount.
func cost(t *testing.T, p *run.Employee, h int64) int64 {
	t.Helper()
	s, e := p.Try(h)
	must(t, e)
	c, e := share.Cost(s.Cash, s.Shares)
	must(t, e)
	return c
}

// exact: the exact net pay of an amount, in parts.
func exact(t *testing.T, p *run.Employee, h int64) int64 {
	t.Helper()
	w, e := window.Of(p)
	must(t, e)
	y, e := w.Exact(h)
	must(t, e)
	return int64(y)
}

// bounds: layer 26's, and how often it looked.
func bounds(t *testing.T, p *run.Employee, net int64) (int64, int64, int, bool) {
	t.Helper()
	w, e := window.Of(p)
	must(t, e)
	low, high, ok := w.Bounds(net)
	return low, high, w.Asked(), ok
}

// The document's example: 280 are reached by 399, of which 79 and 40 are taken: 398 falls short.
func TestExample(t *testing.T) {
	p := hired(t, example(t), "0L")
	a, e := gross.Up(p, 280)
	if a != (gross.Answer{Gross: 399, Net: 280, Rounded: 2, Exact: 2}) || e != api.OK {
		t.Errorf("Up(280): %+v %v", a, e)
	}
	s, e := p.Try(399)
	if s.Tax != 79 || s.Shares[0].Employee != 40 || e != api.OK {
		t.Errorf("of 399 are taken %d and %d", s.Tax, s.Shares[0].Employee)
	}
	q, e := gross.Prove(p, 280)
	if q.Low != 398 || !slices.Equal(q.Short, []int64{398}) || q.Gross != 399 || e != api.OK || !gross.Check(p, 280, q) {
		t.Errorf("Prove(280): %+v %v", q, e)
	}
	if x, e := gross.Over(a, 277); x != 3 || e != api.OK {
		t.Errorf("Over: %d %v", x, e)
	}
	// 399 and 80 of the employer's side; the next one is 400 and 80.
	if h, n, e := gross.Within(p, 479); h != 399 || n < 1 || n > 40 || e != api.OK {
		t.Errorf("Within(479): %d %d %v", h, n, e)
	}
	if i, h, e := gross.Least(280, hired(t, example(t), "K12"), p, hired(t, example(t), "0L")); i != 1 || h != 399 || e != api.OK {
		t.Errorf("Least(280): %d %d %v", i, h, e)
	}
	if gross.Most != top {
		t.Errorf("Most: %d", int64(gross.Most))
	}
}

// P27.1: Of's errors, and that there is no answer beside them; so of Prove and of Least, and no proof holds.
func TestRefuses(t *testing.T) {
	x := example(t)
	cases := map[string]struct {
		p    *run.Employee
		want api.Errno
	}{
		"none":                 {nil, api.ErrMissing},
		"over":                 {over(t, x), api.ErrClosed},
		"too deep at 0":        {hired(t, x, "0L", of("back", money), of("tip", 10)), api.ErrOverflow},
		"too much at the most": {hired(t, x, "0L", of("cash", money-top), of("cash", 1)), api.ErrOverflow},
	}
	for name, c := range cases {
		for _, n := range edges {
			kept(t, c.p, name, func() {
				if a, e := gross.Up(c.p, n); a != (gross.Answer{}) || e != c.want {
					t.Errorf("%s: Up(%d): %+v %v, not %v", name, n, a, e, c.want)
				}
				if q, e := gross.Prove(c.p, n); q.Low != 0 || len(q.Short) > 0 || q.Gross != 0 || e != c.want {
					t.Errorf("%s: Prove(%d): %+v %v, not %v", name, n, q, e, c.want)
				}
				if i, h, e := gross.Least(n, c.p); i != 0 || h != 0 || e != c.want {
					t.Errorf("%s: Least(%d): %d %d %v, not %v", name, n, i, h, e, c.want)
				}
				if gross.Check(c.p, n, gross.Proof{}) {
					t.Errorf("%s: Check(%d)", name, n)
				}
			})
		}
	}
}

// P27.1, P27.4: Try's error of an amount that is looked at, and of none that isn't.
func TestUpMeetsTooMuch(t *testing.T) {
	p := deep(t)
	for h, want := range []api.Errno{api.OK, api.ErrOverflow, api.OK, api.OK} {
		if _, e := p.Try(int64(h)); e != want {
			t.Fatalf("Try(%d): %v", h, e)
		}
	}
	if a, e := gross.Up(p, -money); a.Gross != 0 || a.Net != -money || a.Rounded != 1 || e != api.OK {
		t.Errorf("Up of what 0 reaches: %+v %v", a, e)
	}
	for _, n := range []int64{-money + 1, -money + 2} {
		if a, e := gross.Up(p, n); a != (gross.Answer{}) || e != api.ErrOverflow {
			t.Errorf("Up(%d): %+v %v", n, a, e)
		}
		if q, e := gross.Prove(p, n); len(q.Short) > 0 || q.Low != 0 || q.Gross != 0 || e != api.ErrOverflow {
			t.Errorf("Prove(%d): %+v %v", n, q, e)
		}
		if i, h, e := gross.Least(n, hired(t, example(t), "0L"), p); i != 0 || h != 0 || e != api.ErrOverflow {
			t.Errorf("Least(%d): %d %d %v", n, i, h, e)
		}
	}
	// What is looked for further on never looks at the amount that is too much.
	if a, e := gross.Up(p, -money+20); a.Gross != 22 || a.Net != -money+20 || e != api.OK {
		t.Errorf("Up further on: %+v %v", a, e)
	}
	// A net pay beyond the most, of which amounts are looked at that come to too much.
	rich := high(t)
	for h, want := range map[int64]api.Errno{top - 2: api.OK, top - 1: api.ErrOverflow, top: api.OK} {
		if _, e := rich.Try(h); e != want {
			t.Fatalf("Try(%d): %v", h, e)
		}
	}
	if a, e := gross.Up(rich, money); a.Gross != top-2 || a.Net != money || e != api.OK {
		t.Errorf("Up of the most that may be: %+v %v", a, e)
	}
	if a, e := gross.Up(rich, money+1); a != (gross.Answer{}) || e != api.ErrOverflow {
		t.Errorf("Up of more than may be: %+v %v", a, e)
	}
	// An amount that has no net pay doesn't fall short, and reaches nothing.
	if gross.Check(p, -money+1, gross.Proof{Short: []int64{0, 1, 2}, Gross: 3}) || gross.Check(p, -money+1, gross.Proof{Short: []int64{0}, Gross: 1}) {
		t.Error("a proof with an amount that is too much holds")
	}
	if !gross.Check(p, -money, gross.Proof{}) {
		t.Error("the proof of 0 doesn't hold")
	}
}

// P27.1: of nothing no amount is the least one; how often it was looked for is told.
func TestNoGross(t *testing.T) {
	// All of it is kept; then one at least is taken, so that of the most one less is.
	rich := hired(t, read(t, "limit 0", "round down", "scheme 0.00:0", "kind salary + + +"), "NT")
	short := hired(t, read(t, "limit 0", "round down", "scheme 0.00:0", "contrib a social up 0.00 0.00 0.00:1:0", "contrib b social up 0.01 0.00 0.00:1:0", "kind salary + + +"), "NT")
	left := net(t, short, top)
	if left != top-top/full-1 {
		t.Fatalf("of the most %d are left", left)
	}
	for _, c := range []struct {
		p       *run.Employee
		n       int64
		rounded int
	}{
		{rich, top + 1, 0}, {rich, math.MaxInt64, 0}, {rich, money + 1, 0}, {short, left + 1, 5}, {short, left + 2, 4}, {short, left + 3, 3}, {short, left + 4, 0}, {short, math.MaxInt64, 0},
	} {
		a, e := gross.Up(c.p, c.n)
		low, high, asked, ok := bounds(t, c.p, c.n)
		want := 0
		if ok {
			want = int(high - low + 1)
		}
		if a != (gross.Answer{Rounded: want, Exact: asked}) || e != api.ErrNoGross {
			t.Errorf("Up(%d): %+v %v, not %d and %d", c.n, a, e, want, asked)
		}
		if ok != (c.rounded > 0) {
			t.Errorf("Up(%d): looked for %d", c.n, want)
		}
		if q, e := gross.Prove(c.p, c.n); q.Low != 0 || len(q.Short) > 0 || q.Gross != 0 || e != api.ErrNoGross {
			t.Errorf("Prove(%d): %+v %v", c.n, q, e)
		}
		if i, h, e := gross.Least(c.n, c.p, c.p); i != 0 || h != 0 || e != api.ErrNoGross {
			t.Errorf("Least(%d): %d %d %v", c.n, i, h, e)
		}
	}
	// The most itself may be the one.
	if a, e := gross.Up(rich, top); a.Gross != top || a.Net != top || e != api.OK {
		t.Errorf("Up of the most: %+v %v", a, e)
	}
	if a, e := gross.Up(short, left); a.Gross < top-1 || a.Net < left || e != api.OK {
		t.Errorf("Up of what is left of the most: %+v %v", a, e)
	}
	if a, e := gross.Up(rich, math.MinInt64); a != (gross.Answer{Rounded: 1, Exact: 2}) || e != api.OK {
		t.Errorf("Up of the least number: %+v %v", a, e)
	}
}

// found holds an answer against layer 26's bounds, against the limits, and the proof against its words.
func found(t *testing.T, p *run.Employee, n int64, a gross.Answer) {
	t.Helper()
	low, high, asked, ok := bounds(t, p, n)
	if !ok || a.Gross < low || a.Gross > high || a.Rounded != int(a.Gross-low+1) || a.Exact != asked {
		t.Fatalf("Up(%d): %+v, from %d to %d, asked %d, of %s", n, a, low, high, asked, state(p))
	}
	limited(t, p, a)
	q, e := gross.Prove(p, n)
	if e != api.OK || q.Low != low || q.Gross != a.Gross || !slices.Equal(q.Short, upto(low, a.Gross)) || !gross.Check(p, n, q) {
		t.Fatalf("Prove(%d): %+v %v, of %s", n, q, e, state(p))
	}
	if x, e := gross.Over(a, n); x != a.Net-n || e != api.OK {
		t.Fatalf("Over(%+v, %d): %d %v", a, n, x, e)
	}
}

// limited holds how often it was looked at against the limits.
func limited(t *testing.T, p *run.Employee, a gross.Answer) {
	t.Helper()
	if rounded, all := gross.Limits(p.Table()); a.Rounded > rounded || a.Rounded+a.Exact > all {
		t.Fatalf("%+v: beyond %d or %d, of %s", a, rounded, all, state(p))
	}
}

// upto: all numbers from one on up to another, without it.
func upto(from, to int64) []int64 {
	var list []int64
	for h := from; h < to; h++ {
		list = append(list, h)
	}
	return list
}

// P27.1, P27.2, P27.3, P27.4: of small amounts, against the net pays of all of them, from 0 on.
func TestUpSmall(t *testing.T) {
	r := rand.New(rand.NewSource(1))
	looked, dipped, nothing := 0, 0, 0
	people := []*run.Employee{hired(t, steep(t), "0L"), hired(t, steep(t), "NT"), hired(t, steep(t), "K1"), hired(t, steep(t), "1LX")}
	for i := range 90 {
		people = append(people, chance(t, r, sizes[i%3]))
	}
	for _, p := range people {
		var nets []int64
		for h := range int64(1200) {
			nets = append(nets, net(t, p, h))
		}
		for range 25 {
			n := nets[r.Intn(len(nets))] + r.Int63n(5) - 2
			want := slices.IndexFunc(nets, func(x int64) bool { return x >= n })
			if want < 0 { // it is further on
				continue
			}
			kept(t, p, "Up", func() {
				a, e := gross.Up(p, n)
				if e != api.OK || a.Gross != int64(want) || a.Net != nets[want] {
					t.Fatalf("Up(%d): %+v %v, not %d, of %s", n, a, e, want, state(p))
				}
				found(t, p, n, a)
				looked = max(looked, a.Rounded)
				if a.Gross == 0 {
					nothing++
				}
			})
			if slices.ContainsFunc(nets[want:], func(x int64) bool { return x < n }) {
				dipped++
			}
		}
	}
	if looked < 100 || dipped < 50 || nothing < 3 {
		t.Errorf("looked at most at %d, %d dipped behind, %d at nothing", looked, dipped, nothing)
	}
}

// P27.1, P27.2, P27.3, P27.4: of amounts of all sizes: it reaches the net pay, and none of so many below it does that no further one can.
func TestUpGreat(t *testing.T) {
	r := rand.New(rand.NewSource(2))
	reached, none := 0, 0
	for i := range 200 {
		p := chance(t, r, sizes[3+i%4])
		if _, e := window.Of(p); e != api.OK {
			continue
		}
		for range 3 {
			n := net(t, p, r.Int63n(min(20*sizes[3+i%4], top)+1)) + r.Int63n(7) - 3
			if r.Intn(4) == 0 {
				n = net(t, p, top-r.Int63n(30)) + r.Int63n(20)
			}
			a, e := gross.Up(p, n)
			last := top + int64(1)
			if e == api.OK {
				reached++
				found(t, p, n, a)
				if last = a.Gross; a.Net < n || net(t, p, a.Gross) != a.Net {
					t.Fatalf("Up(%d): %+v, of %s", n, a, state(p))
				}
			} else if none++; e != api.ErrNoGross || a.Gross != 0 || a.Net != 0 {
				t.Fatalf("Up(%d): %+v %v, of %s", n, a, e, state(p))
			}
			limited(t, p, a)
			away := int64(keep.Components(p.Table()))
			for h := last - 1; h >= 0 && exact(t, p, h) > (n-away)*full; h-- {
				if net(t, p, h) >= n {
					t.Fatalf("Up(%d): %+v %v, but %d reaches it, of %s", n, a, e, h, state(p))
				}
			}
		}
	}
	if reached < 200 || none < 20 {
		t.Errorf("%d reached, %d not", reached, none)
	}
}

// steep: a table of which just a twentieth is kept, where all that can round does, against each other.
func steep(t *testing.T) api.Table {
	t.Helper()
	lines := []string{"limit 9440", "round up", "scheme 0.00:9440", "kind salary + + +"}
	for i, name := range []string{"a", "b", "c", "d", "e", "f"} {
		lines = append(lines, "contrib "+name+" social "+[]string{"up", "down"}[i%2]+" 0.00 0.00 0.00:10:0")
	}
	return read(t, lines...)
}

// bent: a table with all bands that may be, whose corners are all apart, by tax rates below and above the limit in turn.
func bent(t *testing.T) api.Table {
	t.Helper()
	x := api.Table{Limit: 3000, Round: api.Up, Schemes: [][]api.Band{nil}, Kinds: []api.Kind{{Name: "salary", Cash: 1, Taxable: 1, Social: 1}, {Name: "back", Cash: -1}}}
	from := int64(0)
	for i := range 8 {
		x.Schemes[0] = append(x.Schemes[0], api.Band{From: from, Rate: 6000 * (i % 2)})
		from += 120_000
	}
	for i := range 6 {
		c := api.Contrib{Name: string(rune('a' + i)), Base: api.OnSocial, PeriodCeil: 90_000 + 500*int64(i+1), Round: api.Up}
		for j := range int64(8) {
			from := 10_001*j + 1001*int64(i)*min(j, 1)
			c.Bands = append(c.Bands, api.Band{From: from, Rate: 100 + 200*int(j%2)})
		}
		x.Contribs = append(x.Contribs, c)
	}
	if e := keep.Check(x); e != api.OK {
		t.Fatal(e)
	}
	return x
}

// P27.3: the limits, and that they hold where it is looked at most often: where least is kept, and where there are most pieces.
func TestLimits(t *testing.T) {
	for n := range 10 {
		rounded, all := gross.Limits(api.Table{Contribs: make([]api.Contrib, n)})
		if want := 40*(n+1) + 2; rounded != want || all != want+64+128 {
			t.Errorf("Limits of %d: %d %d", n, rounded, all)
		}
	}
	r := rand.New(rand.NewSource(3))
	most, pieces := 0, 0
	for _, p := range []*run.Employee{hired(t, steep(t), "0L"), hired(t, steep(t), "K7"), hired(t, bent(t), "0L"), hired(t, bent(t), "0L", of("back", 7000)), hired(t, bent(t), "9LX")} {
		for range 150 {
			n := net(t, p, r.Int63n(150_000)) + r.Int63n(3) - 1
			a, e := gross.Up(p, n)
			must(t, e)
			found(t, p, n, a)
			most, pieces = max(most, a.Rounded), max(pieces, a.Exact)
		}
		w, e := window.Of(p)
		must(t, e)
		y, _ := w.Exact(top)
		for n := int64(y)/full - 20; n < int64(y)/full+20; n++ {
			a, e := gross.Up(p, n)
			if e != api.OK && e != api.ErrNoGross {
				t.Fatalf("Up(%d): %v", n, e)
			}
			limited(t, p, a)
			most, pieces = max(most, a.Rounded), max(pieces, a.Exact)
		}
	}
	if most < 100 || pieces < 100 {
		t.Errorf("looked at %d, and at %d pieces", most, pieces)
	}
}

// holds: does a proof hold, by the words of the promise?
func holds(t *testing.T, p *run.Employee, n int64, q gross.Proof) bool {
	t.Helper()
	if q.Low < 0 || q.Low > q.Gross || q.Gross > top || q.Gross-q.Low > 1<<20 || !slices.Equal(q.Short, upto(q.Low, q.Gross)) {
		return false
	}
	if q.Low > 0 && float64(exact(t, p, q.Low-1))/full > float64(n)-float64(keep.Components(p.Table())) {
		return false
	}
	for _, h := range q.Short {
		if net(t, p, h) >= n {
			return false
		}
	}
	return net(t, p, q.Gross) >= n
}

// changed: a proof, changed in one way.
func changed(r *rand.Rand, q gross.Proof) gross.Proof {
	q.Short = slices.Clone(q.Short)
	by := r.Int63n(5) - 2
	switch r.Intn(9) {
	case 0: // another lower one, of which all amounts are told
		q.Low = max(q.Low+by, 0)
		q.Short = upto(q.Low, q.Gross)
	case 1: // another amount, likewise
		q.Gross = min(q.Gross+by, top)
		q.Short = upto(q.Low, q.Gross)
	case 2:
		q.Low += by
	case 3:
		q.Gross += by
	case 4:
		q.Short = append(q.Short, q.Gross)
	case 5:
		if len(q.Short) > 0 {
			q.Short = q.Short[1:]
		}
	case 6:
		if len(q.Short) > 0 {
			q.Short[r.Intn(len(q.Short))] += by
		}
	case 7:
		slices.Reverse(q.Short)
	case 8: // from far below on
		q.Low = max(q.Low-300, 0)
		q.Short = upto(q.Low, q.Gross)
	}
	return q
}

// P27.4: proofs of each net pay, and others, changed by chance, against the words.
func TestCheck(t *testing.T) {
	r := rand.New(rand.NewSource(4))
	right, wrong := 0, 0
	for i := range 140 {
		size := sizes[i%len(sizes)]
		p := chance(t, r, size)
		if _, e := window.Of(p); e != api.OK {
			continue
		}
		for range 3 {
			n := net(t, p, r.Int63n(min(20*size, top-100)+1)) + r.Int63n(3) - 1
			q, e := gross.Prove(p, n)
			must(t, e)
			if !holds(t, p, n, q) {
				t.Fatalf("Prove(%d): %+v, of %s", n, q, state(p))
			}
			for range 12 {
				x, m := changed(r, q), n+max(r.Int63n(5)-2, 0)
				short := slices.Clone(x.Short)
				var got bool
				kept(t, p, "Check", func() { got = gross.Check(p, m, x) })
				if want := holds(t, p, m, x); got != want {
					t.Fatalf("Check(%d, %+v): %v, of %s", m, x, got, state(p))
				}
				if !slices.Equal(short, x.Short) {
					t.Fatalf("Check changes %v to %v", short, x.Short)
				}
				if got {
					right++
				} else {
					wrong++
				}
			}
		}
	}
	if right < 500 || wrong < 1000 {
		t.Errorf("%d right, %d wrong", right, wrong)
	}
}

// P27.4: proofs at the edges: of numbers beyond all, and of the document's example changed in each of its parts.
func TestCheckEdges(t *testing.T) {
	p := hired(t, example(t), "0L")
	for _, c := range []struct {
		n    int64
		q    gross.Proof
		want bool
	}{
		{280, gross.Proof{Low: 398, Short: []int64{398}, Gross: 399}, true},
		{279, gross.Proof{Low: 398, Short: []int64{398}, Gross: 399}, false}, // of 397 exactly 277.9 are kept: too much
		{279, gross.Proof{Low: 396, Short: []int64{396, 397, 398}, Gross: 399}, false},
		{280, gross.Proof{Low: 397, Short: []int64{397, 398}, Gross: 399}, true},
		{280, gross.Proof{Low: 0, Short: upto(0, 399), Gross: 399}, true},
		{280, gross.Proof{Low: 399, Gross: 399}, false}, // of 398 exactly 278.6 are kept
		{280, gross.Proof{Low: 398, Gross: 399}, false},
		{280, gross.Proof{Low: 398, Short: []int64{398, 399}, Gross: 400}, false}, // 399 doesn't fall short
		{280, gross.Proof{Low: 398, Gross: 398}, false},
		{280, gross.Proof{Low: 397, Short: []int64{398, 397}, Gross: 399}, false},
		{280, gross.Proof{Low: 397, Short: []int64{397, 397}, Gross: 399}, false},
		{280, gross.Proof{Low: 398, Short: []int64{397}, Gross: 399}, false},
		{280, gross.Proof{Low: 400, Short: nil, Gross: 399}, false},
		{0, gross.Proof{}, true}, {-5, gross.Proof{}, true}, {math.MinInt64, gross.Proof{}, true}, {-money - 3, gross.Proof{}, true},
		{1, gross.Proof{}, false}, {math.MaxInt64, gross.Proof{}, false},
		{0, gross.Proof{Low: -1, Short: []int64{-1}}, false}, {0, gross.Proof{Low: -1, Gross: -1}, false},
		{math.MinInt64, gross.Proof{Low: 1, Gross: 1}, false}, {math.MinInt64, gross.Proof{Low: top, Gross: top}, false},
		{math.MinInt64 + 7, gross.Proof{Low: 1, Gross: 1}, false}, {math.MinInt64/full + 3, gross.Proof{Low: 1, Gross: 1}, false},
		{math.MaxInt64, gross.Proof{Low: top, Gross: top}, false}, {math.MaxInt64/full + 3, gross.Proof{Low: top, Gross: top}, false},
		{8000000000 - 50, gross.Proof{Low: top, Gross: top}, false},
		{0, gross.Proof{Low: top + 1, Gross: top + 1}, false},
		{0, gross.Proof{Low: math.MinInt64, Gross: math.MaxInt64}, false}, {0, gross.Proof{Low: math.MaxInt64, Gross: math.MinInt64}, false},
		{0, gross.Proof{Low: 1, Short: []int64{1}, Gross: math.MinInt64}, false},
	} {
		if got := gross.Check(p, c.n, c.q); got != c.want {
			t.Errorf("Check(%d, Low %d, %d short, Gross %d): %v", c.n, c.q.Low, len(c.q.Short), c.q.Gross, got)
		}
	}
	// At the most: the proof of it holds, and one of an amount above it doesn't.
	rich := hired(t, read(t, "limit 0", "round down", "scheme 0.00:0", "kind salary + + +"), "NT")
	q, e := gross.Prove(rich, top)
	if q.Gross != top || e != api.OK || !gross.Check(rich, top, q) {
		t.Errorf("Prove of the most: %+v %v", q, e)
	}
	if gross.Check(rich, top+1, gross.Proof{Low: q.Low, Short: append(slices.Clone(q.Short), top), Gross: top + 1}) {
		t.Error("a proof of more than the most holds")
	}
}

// P27.4: Over is layer 1's Sub.
func TestOver(t *testing.T) {
	for _, x := range edges {
		for _, n := range edges {
			want, e := x-n, api.OK
			if x < -money || x > money || n < -money || n > money || want < -money || want > money {
				want, e = 0, api.ErrOverflow
			}
			if got, f := gross.Over(gross.Answer{Gross: 7, Net: x, Rounded: 7, Exact: 7}, n); got != want || f != e {
				t.Errorf("Over(%d, %d): %d %v, not %d %v", x, n, got, f, want, e)
			}
		}
	}
}

// P27.5: the greatest amount whose cost isn't above a budget, of employees by chance, of all sizes.
func TestWithin(t *testing.T) {
	r := rand.New(rand.NewSource(5))
	inner, none, most := 0, 0, 0
	for i := range 500 {
		size := sizes[i%len(sizes)]
		p := chance(t, r, size)
		if _, e := window.Of(p); e != api.OK {
			continue
		}
		if s, e := p.Try(top); e != api.OK {
			continue
		} else if _, e := share.Cost(s.Cash, s.Shares); e != api.OK {
			continue
		}
		budgets := []int64{cost(t, p, 0), cost(t, p, 0) - 1, cost(t, p, top), cost(t, p, top) - 1, cost(t, p, top) + 1, math.MinInt64, math.MaxInt64}
		for range 6 {
			budgets = append(budgets, cost(t, p, r.Int63n(min(20*size, top)+1))+r.Int63n(3)-1)
		}
		for _, budget := range budgets {
			kept(t, p, "Within", func() {
				h, n, e := gross.Within(p, budget)
				switch {
				case n < 1 || n > 40:
					t.Fatalf("Within(%d): reckoned %d", budget, n)
				case cost(t, p, 0) > budget:
					none++
					if h != 0 || e != api.ErrNoGross {
						t.Fatalf("Within(%d): %d %v, of %s", budget, h, e, state(p))
					}
				case e != api.OK || h < 0 || h > top || cost(t, p, h) > budget || h < top && cost(t, p, h+1) <= budget:
					t.Fatalf("Within(%d): %d %v, of %s", budget, h, e, state(p))
				case h == top:
					most++
				default:
					if inner++; n < 34 { // fewer don't tell one of so many amounts
						t.Fatalf("Within(%d): %d, reckoned %d", budget, h, n)
					}
				}
			})
		}
	}
	if inner < 1000 || none < 500 || most < 500 {
		t.Errorf("inner %d, none %d, most %d", inner, none, most)
	}
}

// P27.5: the errors, and that nothing is told beside them.
func TestWithinRefuses(t *testing.T) {
	x := example(t)
	greedy := read(t, "limit 0", "round down", "scheme 0.00:0", "contrib a social down 0.00 0.00 0.00:0:10000", "kind salary + + +", "kind tip 0 0 +", "kind cash + 0 0")
	for name, c := range map[string]struct {
		p    *run.Employee
		want api.Errno
	}{
		"none":                     {nil, api.ErrMissing},
		"over":                     {over(t, x), api.ErrClosed},
		"too deep at 0":            {hired(t, x, "0L", of("back", money), of("tip", 10)), api.ErrOverflow},
		"too much but at 0":        {hired(t, x, "0L", of("cash", money)), api.ErrOverflow},
		"too high a cost":          {hired(t, greedy, "0L", of("salary", money)), api.ErrOverflow},
		"too high a cost but at 0": {hired(t, greedy, "0L", of("salary", money/2)), api.ErrOverflow},
	} {
		kept(t, c.p, name, func() {
			if h, n, e := gross.Within(c.p, money); h != 0 || n != 0 || e != c.want {
				t.Errorf("%s: Within: %d %d %v, not %v", name, h, n, e, c.want)
			}
		})
	}
	// A budget below what nothing more costs: none is looked for further on, where it would be too much.
	for _, p := range []*run.Employee{hired(t, x, "0L", of("cash", money)), hired(t, greedy, "0L", of("salary", money/2))} {
		for _, budget := range []int64{money - 1, 0, -money - 1, math.MinInt64} {
			if h, n, e := gross.Within(p, budget); h != 0 || n != 1 || e != api.ErrNoGross {
				t.Errorf("Within(%d): %d %d %v", budget, h, n, e)
			}
		}
	}
}

// P27.6: the first one with the least amount; who reaches it by none is left out; the first other error.
func TestLeast(t *testing.T) {
	x := example(t)
	free, taxed, some, poor := hired(t, x, "NT"), hired(t, x, "0L"), hired(t, x, "0L", of("salary", 100)), hired(t, x, "0L", of("back", money))
	closed, deep := over(t, x), hired(t, x, "0L", of("back", money), of("tip", 10))
	least := func(n int64, p *run.Employee) int64 {
		a, e := gross.Up(p, n)
		must(t, e)
		return a.Gross
	}
	for _, c := range []struct {
		n    int64
		list []*run.Employee
		i    int
		h    int64
		want api.Errno
	}{
		{280, nil, 0, 0, api.ErrNoGross},
		{280, []*run.Employee{taxed}, 0, 399, api.OK},
		{280, []*run.Employee{taxed, free}, 1, least(280, free), api.OK},
		{280, []*run.Employee{free, taxed}, 0, least(280, free), api.OK},
		{280, []*run.Employee{taxed, free, free.Clone(), free}, 1, least(280, free), api.OK},
		{280, []*run.Employee{poor, taxed, poor, some, poor}, 3, least(280, some), api.OK},
		{280, []*run.Employee{poor, taxed, taxed, poor}, 1, 399, api.OK},
		{280, []*run.Employee{poor, poor}, 0, 0, api.ErrNoGross},
		{-50, []*run.Employee{poor, taxed, free, some}, 1, 0, api.OK},
		{280, []*run.Employee{taxed, nil, closed}, 0, 0, api.ErrMissing},
		{280, []*run.Employee{poor, closed, nil}, 0, 0, api.ErrClosed},
		{280, []*run.Employee{free, taxed, deep, closed}, 0, 0, api.ErrOverflow},
		{math.MaxInt64, []*run.Employee{taxed, free}, 0, 0, api.ErrNoGross},
		{math.MaxInt64, []*run.Employee{taxed, free, nil}, 0, 0, api.ErrMissing},
		{math.MinInt64, []*run.Employee{taxed, free}, 0, 0, api.OK},
	} {
		given := slices.Clone(c.list)
		i, h, e := gross.Least(c.n, c.list...)
		if i != c.i || h != c.h || e != c.want {
			t.Errorf("Least(%d) of %d: %d %d %v, not %d %d %v", c.n, len(c.list), i, h, e, c.i, c.h, c.want)
		}
		if !slices.Equal(given, c.list) {
			t.Errorf("Least changes its list")
		}
	}
}

// P2: a proof's list is new memory, its spare room too, and nothing is kept.
func TestMemory(t *testing.T) {
	p := hired(t, steep(t), "0L")
	one, e := gross.Prove(p, 100)
	two, f := gross.Prove(p, 100)
	must(t, e, f)
	if len(one.Short) < 2 {
		t.Fatalf("Prove: %+v", one)
	}
	spare := one.Short[:cap(one.Short)]
	for i := range spare {
		spare[i] = -77
	}
	three, e := gross.Prove(p, 100)
	if e != api.OK || fmt.Sprint(two) != fmt.Sprint(three) || !gross.Check(p, 100, two) {
		t.Errorf("Prove: %+v, then %+v", two, three)
	}
}

// P1: no call panics, whatever it is given, and each answers the same again.
func TestEnds(t *testing.T) {
	r := rand.New(rand.NewSource(6))
	for i := range 70 {
		p := chance(t, r, sizes[i%len(sizes)])
		for _, x := range edges {
			all := func() string {
				a, e := gross.Up(p, x)
				q, f := gross.Prove(p, x)
				h, n, g := gross.Within(p, x)
				k, least, d := gross.Least(x, p, p)
				over, c := gross.Over(a, x)
				ok := gross.Check(p, x, gross.Proof{Low: x, Gross: x})
				if e == api.OK && !gross.Check(p, x, q) {
					t.Errorf("the proof of %d doesn't hold: %+v", x, q)
				}
				return fmt.Sprint(a, e, q, f, h, n, g, k, least, d, over, c, ok)
			}
			kept(t, p, "a call", func() {
				if one, two := all(), all(); one != two {
					t.Errorf("%d: %s, then %s", x, one, two)
				}
			})
		}
	}
	for _, x := range []api.Table{{}, {Schemes: make([][]api.Band, 99), Contribs: make([]api.Contrib, 99)}} {
		if rounded, all := gross.Limits(x); rounded <= 0 || all <= rounded {
			t.Errorf("Limits: %d %d", rounded, all)
		}
	}
}
