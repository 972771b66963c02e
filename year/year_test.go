package year_test

import (
	"fmt"
	"math"
	"math/big"
	"math/rand"
	"reflect"
	"slices"
	"testing"

	"stipend/api"
	"stipend/social"
	"stipend/year"
)

const (
	top     = 100_000_000_000 // as the document tells them
	periods = 53
	most    = 64
)

// edges: numbers at which something may go over.
var edges = []int64{math.MinInt64, math.MinInt64 + 1, -top * 2, -top - 1, -top, -top + 1, -top / 2, -100, -1, 0, 1, 50, 1000, top / 2, top - 1, top, top + 1, top * 2, math.MaxInt64 - 1, math.MaxInt64}

// may: may a number be an amount?
func may(n *big.Int) bool { return n.CmpAbs(big.NewInt(top)) <= 0 }

// add: two amounts together, in big numbers; false, if one of them, or that, may not be.
func add(x, y int64) (int64, bool) {
	sum := new(big.Int).Add(big.NewInt(x), big.NewInt(y))
	return sum.Int64(), may(big.NewInt(x)) && may(big.NewInt(y)) && may(sum)
}

// sum: amounts one by one from 0 on.
func sum(list ...int64) (int64, bool) {
	all, ok := int64(0), true
	for _, x := range list {
		if all, ok = add(all, x); !ok {
			return 0, false
		}
	}
	return all, true
}

// sides: the employees' sides of contributions, and the employers'.
func sides(list []api.Share) (employees, employers []int64) {
	for _, s := range list {
		employees, employers = append(employees, s.Employee), append(employers, s.Employer)
	}
	return employees, employers
}

// took: what orders took of a payslip, one by one.
func took(s api.Slip) []int64 {
	var list []int64
	for _, x := range s.Taken {
		list = append(list, x.Taken)
	}
	return list
}

// less: is an amount what is left of another one behind some?
func less(is, of int64, list ...int64) bool {
	left := big.NewInt(of)
	for _, x := range list {
		left.Sub(left, big.NewInt(x))
	}
	return left.Cmp(big.NewInt(is)) == 0
}

// checked: what Check must tell.
func checked(s api.Slip, n int) api.Errno {
	employees, employers := sides(s.Shares)
	if s.Period < 1 || s.Period > periods {
		return api.ErrRange
	}
	if len(s.Shares) != n {
		return api.ErrMissing
	}
	_, ok := sum(employees...)
	_, right := sum(employers...)
	_, taken := sum(took(s)...)
	for _, x := range []int64{s.Cash, s.Taxable, s.Social, s.Tax, s.Shortfall, s.Net, s.Pay} {
		ok = ok && may(big.NewInt(x))
	}
	if !ok || !right || !taken {
		return api.ErrOverflow
	}
	if !less(s.Net, s.Cash, append(employees, s.Tax)...) || !less(s.Pay, s.Net, took(s)...) {
		return api.ErrForm
	}
	return api.OK
}

// comes: what payslips of n contributions come to, one by one.
func comes(n int, list ...api.Slip) (year.Totals, api.Errno) {
	all := year.Totals{Shares: make(social.Row, n)}
	for _, s := range list {
		ok := true
		put := func(to *int64, x int64) {
			is, right := add(*to, x)
			*to, ok = is, ok && right
		}
		put(&all.Cash, s.Cash)
		put(&all.Taxable, s.Taxable)
		put(&all.Social, s.Social)
		put(&all.Tax, s.Tax)
		put(&all.Net, s.Net)
		put(&all.Pay, s.Pay)
		taken, _ := sum(took(s)...)
		put(&all.Taken, taken)
		for i, both := range s.Shares {
			put(&all.Shares[i].Employee, both.Employee)
			put(&all.Shares[i].Employer, both.Employer)
		}
		all.Shortfall = s.Shortfall
		if !ok {
			return year.Totals{}, api.ErrOverflow
		}
	}
	return all, api.OK
}

// like: are two totals the same, field by field?
func like(a, b year.Totals) bool {
	if len(a.Shares) == 0 && len(b.Shares) == 0 {
		a.Shares, b.Shares = nil, nil
	}
	return reflect.DeepEqual(a, b)
}

// alike: are two payslips the same, field by field?
func alike(a, b api.Slip) bool {
	if len(a.Shares) == 0 && len(b.Shares) == 0 {
		a.Shares, b.Shares = nil, nil
	}
	if len(a.Taken) == 0 && len(b.Taken) == 0 {
		a.Taken, b.Taken = nil, nil
	}
	return reflect.DeepEqual(a, b)
}

// bases: these bases.
func bases(cash, taxable, social int64) api.Bases {
	return api.Bases{Cash: cash, Taxable: taxable, Social: social}
}

// takes: what orders took, numbered from 1 on.
func takes(list ...int64) []api.Taken {
	var all []api.Taken
	for i, x := range list {
		all = append(all, api.Taken{Order: i + 1, Ordered: x, Due: x, Taken: x})
	}
	return all
}

// row: shares of these sides, the employee's and the employer's in turn.
func row(sides ...int64) []api.Share {
	var list []api.Share
	for i := 0; i+1 < len(sides); i += 2 {
		list = append(list, api.Share{Employee: sides[i], Employer: sides[i+1]})
	}
	return list
}

// hung: the payslip of these that hangs together.
func hung(k int, b api.Bases, tax, short int64, shares []api.Share, taken ...int64) api.Slip {
	s := api.Slip{Period: k, Bases: b, Tax: tax, Shortfall: short, Shares: shares, Taken: takes(taken...)}
	s.Net = s.Cash - s.Tax
	for _, both := range shares {
		s.Net -= both.Employee
	}
	s.Pay = s.Net
	for _, x := range taken {
		s.Pay -= x
	}
	return s
}

// example: the document's example.
func example() api.Slip {
	return api.Slip{Period: 1, Bases: bases(1000, 1000, 1000), Tax: 100, Shares: row(50, 70), Net: 850, Taken: takes(50), Pay: 800}
}

// but: the document's example, changed.
func but(change func(*api.Slip)) api.Slip {
	s := example()
	change(&s)
	return s
}

// P19.1: what hangs together.
func TestCheck(t *testing.T) {
	wide := hung(53, bases(1000, 0, 0), 100, 0, slices.Repeat(row(1, 2), 100), 5)
	for _, c := range []struct {
		s api.Slip
		n int
	}{
		{example(), 1}, {but(func(s *api.Slip) { s.Period = 53 }), 1}, {but(func(s *api.Slip) { s.Shortfall = -7 }), 1}, {but(func(s *api.Slip) { s.Taxable, s.Social = -5, top }), 1}, {but(func(s *api.Slip) { s.Shares[0].Employer = -top }), 1},
		{hung(1, bases(0, 0, 0), 0, 0, nil), 0}, {hung(1, bases(0, 0, 0), 0, 0, []api.Share{}, 0), 0}, {hung(2, bases(-1000, 1, 2), -300, 5, row(-100, 0, 7, 7), 3, -4), 2}, {wide, 100},
		{hung(1, bases(top, top, top), top, top, row(0, top)), 1}, {hung(1, bases(-top, -top, -top), -top, -top, row(0, -top)), 1}, {hung(1, bases(top, 0, 0), 0, 0, nil, top), 0}, {hung(1, bases(-top, 0, 0), 0, 0, nil, -top), 0}, {hung(1, bases(top, 0, 0), 0, 0, row(top, 0), top, -top), 1},
		{hung(1, bases(top, 0, 0), -top, 0, row(top, 0)), 1}, {hung(1, bases(-top, 0, 0), top, 0, row(-top, 0)), 1}, {hung(1, bases(0, 0, 0), top, 0, nil), 0}, // between them more than the most is taken, or less
		{but(func(s *api.Slip) {
			s.Taken[0] = api.Taken{Order: -3, Brought: top * 5, Due: -1, Taken: 50, Carried: math.MinInt64}
		}), 1}, // what an order came to, but for what it took, isn't asked
	} {
		if e := year.Check(c.s, c.n); e != api.OK {
			t.Errorf("Check(%v, %d): %v", c.s, c.n, e)
		}
	}
}

// fault is a change of a payslip by which it hangs together no more, and the error of it.
type fault struct {
	e      api.Errno
	change func(*api.Slip)
}

// faults: all kinds of them, in the order in which they are told.
func faults() []fault {
	return []fault{
		{api.ErrRange, func(s *api.Slip) { s.Period = 0 }}, {api.ErrRange, func(s *api.Slip) { s.Period = 54 }}, {api.ErrRange, func(s *api.Slip) { s.Period = -1 }}, {api.ErrRange, func(s *api.Slip) { s.Period = math.MinInt }}, {api.ErrRange, func(s *api.Slip) { s.Period = math.MaxInt }},
		{api.ErrMissing, func(s *api.Slip) { s.Shares = nil }}, {api.ErrMissing, func(s *api.Slip) { s.Shares = append(s.Shares, api.Share{}) }}, {api.ErrMissing, func(s *api.Slip) { s.Shares = s.Shares[1:] }},
		{api.ErrOverflow, func(s *api.Slip) { s.Shares[0].Employee = top + 1 }}, {api.ErrOverflow, func(s *api.Slip) { s.Shares[len(s.Shares)-1].Employer = -top - 1 }}, {api.ErrOverflow, func(s *api.Slip) { s.Shares[0].Employer, s.Shares[1].Employer = top, 1 }}, {api.ErrOverflow, func(s *api.Slip) { s.Shares[0].Employee, s.Shares[1].Employee = -top, -1 }},
		{api.ErrOverflow, func(s *api.Slip) { s.Cash = top + 1 }}, {api.ErrOverflow, func(s *api.Slip) { s.Taxable = -top - 1 }}, {api.ErrOverflow, func(s *api.Slip) { s.Social = top + 1 }}, {api.ErrOverflow, func(s *api.Slip) { s.Tax = -top - 1 }}, {api.ErrOverflow, func(s *api.Slip) { s.Shortfall = top + 1 }}, {api.ErrOverflow, func(s *api.Slip) { s.Net = math.MaxInt64 }}, {api.ErrOverflow, func(s *api.Slip) { s.Pay = math.MinInt64 }},
		{api.ErrOverflow, func(s *api.Slip) { s.Taken = takes(top + 1) }}, {api.ErrOverflow, func(s *api.Slip) { s.Taken = takes(top, 1, -1) }}, {api.ErrOverflow, func(s *api.Slip) { s.Taken = takes(5, math.MinInt64) }},
		{api.ErrForm, func(s *api.Slip) { s.Net++ }}, {api.ErrForm, func(s *api.Slip) { s.Net--; s.Pay-- }}, {api.ErrForm, func(s *api.Slip) { s.Cash++ }}, {api.ErrForm, func(s *api.Slip) { s.Tax++ }}, {api.ErrForm, func(s *api.Slip) { s.Shares[1].Employee-- }}, {api.ErrForm, func(s *api.Slip) { s.Pay-- }}, {api.ErrForm, func(s *api.Slip) { s.Taken = nil }}, {api.ErrForm, func(s *api.Slip) { s.Taken[0].Taken++ }}, {api.ErrForm, func(s *api.Slip) { s.Taken = append(s.Taken, takes(0, 1)...) }},
	}
}

// P19.1: each fault, and of each two the one that is told first.
func TestCheckFaults(t *testing.T) {
	whole := func() api.Slip { return hung(7, bases(1000, 900, 800), 100, 5, row(50, 70, 20, 30), 50, 60) }
	if e := year.Check(whole(), 2); e != api.OK {
		t.Fatal(e)
	}
	for i, a := range faults() {
		s := whole()
		a.change(&s)
		if e := year.Check(s, 2); e != a.e {
			t.Errorf("fault %d, %v: %v, not %v", i, s, e, a.e)
		}
		for j, b := range faults() {
			if j < i || a.e == b.e {
				continue
			}
			s := whole()
			b.change(&s)
			a.change(&s)
			if e := year.Check(s, 2); e != a.e {
				t.Errorf("faults %d and %d, %v: %v, not %v", i, j, s, e, a.e)
			}
		}
	}
	for _, n := range []int{math.MinInt, -1, 0, 1, 3, 64, 65, math.MaxInt} {
		if e := year.Check(whole(), n); e != api.ErrMissing {
			t.Errorf("Check of %d contributions: %v", n, e)
		}
	}
	if e := year.Check(api.Slip{}, 0); e != api.ErrRange {
		t.Errorf("Check of the zero payslip: %v", e)
	}
}

// P19.1: at all edges, against big numbers.
func TestCheckMany(t *testing.T) {
	r := rand.New(rand.NewSource(191))
	amount := func() int64 {
		if r.Intn(3) > 0 {
			return r.Int63n(2000) - 500
		}
		return edges[r.Intn(len(edges))]
	}
	told := map[api.Errno]int{}
	for range 50_000 {
		n := r.Intn(3)
		shares := make([]api.Share, n)
		for i := range shares {
			shares[i] = api.Share{Employee: amount(), Employer: r.Int63n(99)}
		}
		s := hung(1+r.Intn(53), bases(amount(), r.Int63n(99), 5), amount(), r.Int63n(99), shares, []int64{amount(), amount()}[:r.Intn(3)]...)
		if r.Intn(4) == 0 {
			places := []*int64{&s.Cash, &s.Taxable, &s.Social, &s.Tax, &s.Shortfall, &s.Net, &s.Pay}
			*places[r.Intn(len(places))] = amount()
		}
		want := checked(s, n)
		if e := year.Check(s, n); e != want {
			t.Fatalf("Check(%v, %d): %v, not %v", s, n, e, want)
		}
		told[want]++
	}
	for _, e := range []api.Errno{api.OK, api.ErrOverflow, api.ErrForm} {
		if told[e] < 1000 {
			t.Errorf("only %d times %v", told[e], e)
		}
	}
}

// begun: a year of so many contributions, in which these were posted.
func begun(t *testing.T, n int, list ...api.Slip) *year.Year {
	t.Helper()
	y, e := year.New(n)
	if y == nil || e != api.OK {
		t.Fatalf("New(%d): %v, %v", n, y, e)
	}
	for _, s := range list {
		if e := y.Post(s); e != api.OK {
			t.Fatalf("Post(%v): %v", s, e)
		}
	}
	return y
}

// stands tells a test's fault, if a year isn't one in which these, of n contributions, were posted.
func stands(t *testing.T, y *year.Year, n int, list ...api.Slip) {
	t.Helper()
	if y.Count() != len(list) {
		t.Errorf("Count: %d, not %d", y.Count(), len(list))
	}
	if want, _ := comes(n, list...); !like(y.Totals(), want) {
		t.Errorf("Totals: %v, not %v", y.Totals(), want)
	}
	slips := y.Slips()
	if !slices.EqualFunc(slips, list, alike) {
		t.Errorf("Slips: %v, not %v", slips, list)
	}
	for i := range list {
		if got, e := y.Slip(i + 1); e != api.OK || !alike(got, list[i]) {
			t.Errorf("Slip(%d): %v, %v, not %v", i+1, got, e, list[i])
		}
	}
	for k := range len(list) + 1 {
		want, _ := comes(n, list[:k]...)
		if got, e := y.Upto(k); e != api.OK || !like(got, want) {
			t.Errorf("Upto(%d): %v, %v, not %v", k, got, e, want)
		}
	}
	for _, k := range []int{math.MinInt, -1, len(list) + 1, len(list) + 2, math.MaxInt} {
		if got, e := y.Upto(k); e != api.ErrMissing || !like(got, year.Totals{}) {
			t.Errorf("Upto(%d): %v, %v", k, got, e)
		}
		if got, e := y.Slip(k); e != api.ErrMissing || !alike(got, api.Slip{}) {
			t.Errorf("Slip(%d): %v, %v", k, got, e)
		}
	}
	if got, e := y.Slip(0); e != api.ErrMissing || !alike(got, api.Slip{}) {
		t.Errorf("Slip(0): %v, %v", got, e)
	}
}

// P19.2, P19.3: a year of 0 to 64 contributions, in which nothing was posted.
func TestNew(t *testing.T) {
	for _, n := range []int{0, 1, 2, 6, most - 1, most} {
		y := begun(t, n)
		stands(t, y, n)
		if got := y.Totals(); len(got.Shares) != n {
			t.Errorf("Totals of %d contributions: %v", n, got)
		}
		s := hung(1, bases(1000, 0, 0), 100, 0, slices.Repeat(row(1, 2), n))
		if e := y.Post(s); e != api.OK {
			t.Errorf("Post of %d contributions: %v", n, e)
		}
		stands(t, y, n, s)
	}
	for _, n := range []int{-1, most + 1, math.MinInt, math.MaxInt} {
		if y, e := year.New(n); y != nil || e != api.ErrRange {
			t.Errorf("New(%d): %v, %v", n, y, e)
		}
	}
}

// refused tells a test's fault, if Try and Post of a payslip don't tell an error, or change something.
func refused(t *testing.T, y *year.Year, s api.Slip, want api.Errno) {
	t.Helper()
	count, totals, slips := y.Count(), y.Totals(), y.Slips()
	if got, e := y.Try(s); e != want || !like(got, year.Totals{}) {
		t.Errorf("Try(%v): %v, %v, not %v", s, got, e, want)
	}
	if e := y.Post(s); e != want {
		t.Errorf("Post(%v): %v, not %v", s, e, want)
	}
	if y.Count() != count || !like(y.Totals(), totals) || !slices.EqualFunc(y.Slips(), slips, alike) {
		t.Errorf("refused, %v changed something: %v", s, y.Totals())
	}
}

// P19.2, P19.3: period by period; Try posts nothing; the shortfall is the last one's; the year is never longer than 53 periods.
func TestPost(t *testing.T) {
	var list []api.Slip
	y := begun(t, 2)
	for k := 1; k <= periods; k++ {
		s := hung(k, bases(int64(1000*k), int64(900-k), int64(-k*k)), int64(100+k), int64(7-k), row(int64(k), 5, -3, int64(k%4)), int64(k*5), 9)
		for _, other := range []int{k - 2, k - 1, k + 1, k + 9} {
			want, n := s, api.ErrOrder
			if want.Period = other; other < 1 || other > periods {
				n = api.ErrRange
			}
			refused(t, y, want, n)
		}
		want, _ := comes(2, append(slices.Clone(list), s)...)
		for range 2 {
			if got, e := y.Try(s); e != api.OK || !like(got, want) {
				t.Errorf("Try(%v): %v, %v, not %v", s, got, e, want)
			}
			stands(t, y, 2, list...)
		}
		if e := y.Post(s); e != api.OK {
			t.Errorf("Post(%v): %v", s, e)
		}
		list = append(list, s)
		if got := y.Totals(); !like(got, want) || got.Shortfall != int64(7-k) {
			t.Errorf("behind the period %d: %v, not %v", k, got, want)
		}
	}
	stands(t, y, 2, list...)
	refused(t, y, hung(54, bases(0, 0, 0), 0, 0, row(0, 0, 0, 0)), api.ErrRange)
}

// P19.2: the document's example, twice.
func TestPostExample(t *testing.T) {
	y := begun(t, 1, example(), but(func(s *api.Slip) { s.Period, s.Shortfall = 2, 30 }))
	want := year.Totals{Bases: bases(2000, 2000, 2000), Tax: 200, Shortfall: 30, Shares: row(100, 140), Net: 1700, Taken: 100, Pay: 1600}
	if got := y.Totals(); !like(got, want) || got.Cash != 2000 {
		t.Errorf("Totals: %v, not %v", got, want)
	}
}

// P19.2: Check's error comes first, then the period's, then what all come to.
func TestPostRefuses(t *testing.T) {
	y := begun(t, 2, hung(1, bases(top, 0, 0), 0, 0, row(0, 0, 0, 0)))
	for i, f := range faults() {
		for _, k := range []int{1, 2, 3} {
			s := hung(k, bases(1000, 900, 800), 100, 5, row(50, 70, 20, 30), 50, 60)
			f.change(&s)
			want := checked(s, 2)
			if want != f.e {
				t.Fatalf("fault %d: %v", i, want)
			}
			refused(t, y, s, want)
		}
	}
	refused(t, y, hung(1, bases(1, 0, 0), 0, 0, row(0, 0, 0, 0)), api.ErrOrder)
	refused(t, y, hung(3, bases(1, 0, 0), 0, 0, row(0, 0, 0, 0)), api.ErrOrder)
	refused(t, y, hung(2, bases(1, 0, 0), 0, 0, row(0, 0, 0, 0)), api.ErrOverflow)
	refused(t, y, hung(2, bases(0, 0, 0), 0, 0, row(0, 0)), api.ErrMissing)
	refused(t, y, hung(2, bases(0, 0, 0), 0, 0, row(0, 0, 0, 0, 0, 0)), api.ErrMissing)
	refused(t, y, hung(9, bases(0, 0, 0), 0, 0, nil), api.ErrMissing)
	if e := y.Post(hung(2, bases(0, 0, 0), 0, 0, row(0, 0, 0, 0))); e != api.OK || y.Count() != 2 {
		t.Errorf("Post behind what was refused: %v", e)
	}
}

// twos: payslips of which one thing, and that alone, is beyond the most, if there are two of each; of both signs.
func twos() []func(k int, sign int64) api.Slip {
	const half = top / 2
	of := func(cash, tax, employee, employer int64, taken ...int64) func(int, int64) api.Slip {
		return func(k int, sign int64) api.Slip {
			var list []int64
			for _, x := range taken {
				list = append(list, x*sign)
			}
			return hung(k, bases(cash*sign, 0, 0), tax*sign, 0, row(0, 0, employee*sign, employer*sign), list...)
		}
	}
	return []func(int, int64) api.Slip{
		of(half+1, 1, 0, 0),         // the cash
		of(half, half+1, 0, 0),      // the tax
		of(half, 0, half+1, 0),      // the employee's side
		of(half, 0, 0, half+1),      // the employer's
		of(half, -1, 0, 0, 1),       // the net pay
		of(half, 0, 0, 0, half+1),   // what orders took
		of(half, 0, 0, 0, -7, 6),    // the pay
		of(half, 0, 0, 0, half, 1),  // what orders took together
		of(top, half, 0, 0, half/2), // much
		func(k int, sign int64) api.Slip {
			return hung(k, bases(0, sign*(half+1), 0), 0, 0, row(0, 0, 0, 0))
		},
		func(k int, sign int64) api.Slip {
			return hung(k, bases(0, 0, sign*(half+1)), 0, 0, row(0, 0, 0, 0))
		},
	}
}

// P19.2, P19.4: each thing that all come to may not be beyond the most; of some periods, too; their averages may.
func TestOverflow(t *testing.T) {
	for i, of := range twos() {
		for _, sign := range []int64{1, -1} {
			y := begun(t, 2, of(1, sign))
			refused(t, y, of(2, sign), api.ErrOverflow)
			for k, by := range []int64{-sign, sign} {
				if e := y.Post(of(k+2, by)); e != api.OK {
					t.Fatalf("%d: Post of the period %d: %v", i, k+2, e)
				}
			}
			refused(t, y, of(4, sign), api.ErrOverflow)
			y = begun(t, 2, of(1, sign), of(2, -sign), of(3, -sign), of(4, sign))
			if got, e := y.Between(2, 3); e != api.ErrOverflow || !like(got, year.Totals{}) {
				t.Errorf("%d: Between(2, 3): %v, %v", i, got, e)
			}
			if got, e := y.Between(2, 4); e != api.ErrOverflow || !like(got, year.Totals{}) {
				t.Errorf("%d: Between(2, 4): %v, %v", i, got, e)
			}
			s := of(2, -sign)
			want := year.Average{Cash: s.Cash, Tax: s.Tax, Net: s.Net, Pay: s.Pay}
			if got, e := y.Averages(2, 3); e != api.OK || got != want {
				t.Errorf("%d: Averages(2, 3): %v, %v, not %v", i, got, e, want)
			}
		}
	}
	// The shortfalls aren't put together.
	most := func(k int) api.Slip { return hung(k, bases(0, 0, 0), 0, top, nil) }
	y := begun(t, 0, most(1), most(2), most(3))
	if got := y.Totals(); got.Shortfall != top {
		t.Errorf("Totals: %v", got)
	}
	if got, e := y.Between(2, 3); e != api.OK || got.Shortfall != top {
		t.Errorf("Between(2, 3): %v, %v", got, e)
	}
	// Up to the most itself all may come.
	half := func(k int) api.Slip {
		return hung(k, bases(top/2, top/2, -top/2), top/2, 0, row(0, top/2), -top/2)
	}
	y = begun(t, 1, half(1), half(2))
	if got, want := y.Totals(), (year.Totals{Bases: bases(top, top, -top), Tax: top, Shares: row(0, top), Taken: -top, Pay: top}); !like(got, want) {
		t.Errorf("Totals: %v, not %v", got, want)
	}
}

// some: payslips of a year of n contributions, of amounts by chance.
func some(r *rand.Rand, n, many int) []api.Slip {
	var list []api.Slip
	amount := func() int64 { return r.Int63n(5000) - 1000 }
	for k := range many {
		shares := make([]api.Share, n)
		for i := range shares {
			shares[i] = api.Share{Employee: amount(), Employer: amount()}
		}
		taken := make([]int64, r.Intn(3))
		for i := range taken {
			taken[i] = amount()
		}
		list = append(list, hung(k+1, bases(amount(), amount(), amount()), amount(), amount(), shares, taken...))
	}
	return list
}

// averaged: amounts' average, of two whole numbers the one that is farther from 0.
func averaged(list []int64) int64 {
	all := new(big.Rat)
	for _, x := range list {
		all.Add(all, new(big.Rat).SetInt64(x))
	}
	all.Quo(all, new(big.Rat).SetInt64(int64(len(list))))
	half := big.NewRat(1, 2)
	if all.Sign() < 0 {
		half.Neg(half)
	}
	all.Add(all, half)
	return new(big.Int).Quo(all.Num(), all.Denom()).Int64()
}

// P19.3, P19.4: all that is told of years, of all stretches of periods.
func TestYears(t *testing.T) {
	r := rand.New(rand.NewSource(193))
	for range 150 {
		n := r.Intn(4)
		list := some(r, n, r.Intn(12))
		y := begun(t, n, list...)
		stands(t, y, n, list...)
		for from := -1; from <= len(list)+2; from++ {
			for to := -1; to <= len(list)+2; to++ {
				got, e := y.Between(from, to)
				average, e2 := y.Averages(from, to)
				if from < 1 || to > len(list) || to < from {
					if e != api.ErrMissing || !like(got, year.Totals{}) || e2 != api.ErrMissing || average != (year.Average{}) {
						t.Fatalf("Between and Averages(%d, %d) of %d: %v, %v, %v, %v", from, to, len(list), got, e, average, e2)
					}
					continue
				}
				want, _ := comes(n, list[from-1:to]...)
				if e != api.OK || !like(got, want) {
					t.Fatalf("Between(%d, %d): %v, %v, not %v", from, to, got, e, want)
				}
				var cash, tax, net, pay []int64
				for _, s := range list[from-1 : to] {
					cash, tax, net, pay = append(cash, s.Cash), append(tax, s.Tax), append(net, s.Net), append(pay, s.Pay)
				}
				if want := (year.Average{Cash: averaged(cash), Tax: averaged(tax), Net: averaged(net), Pay: averaged(pay)}); e2 != api.OK || average != want {
					t.Fatalf("Averages(%d, %d): %v, %v, not %v", from, to, average, e2, want)
				}
			}
		}
		best := 0
		for i, s := range list {
			if !slices.ContainsFunc(list, func(x api.Slip) bool { return x.Pay > s.Pay }) {
				best = i + 1
				break
			}
		}
		if got := y.Greatest(); got != best {
			t.Errorf("Greatest of %v: %d, not %d", list, got, best)
		}
	}
}

// paid: payslips of these pays, without anything taken.
func paid(list ...int64) []api.Slip {
	var all []api.Slip
	for i, x := range list {
		all = append(all, hung(i+1, bases(x, 0, 0), 0, 0, nil))
	}
	return all
}

// P19.4: averages are rounded to the nearest coin, of two to the one that is farther from 0.
func TestAverages(t *testing.T) {
	for _, c := range []struct {
		pays []int64
		want int64
	}{
		{[]int64{2, 3}, 3}, {[]int64{-2, -3}, -3}, {[]int64{0, 1}, 1}, {[]int64{0, -1}, -1}, {[]int64{1, 2}, 2}, {[]int64{0, 0, 1}, 0}, {[]int64{0, 1, 1}, 1}, {[]int64{0, 0, -1}, 0}, {[]int64{0, -1, -1}, -1}, {[]int64{5, -5}, 0}, {[]int64{top, 0, -top}, 0}, {[]int64{top, -top, top}, 33_333_333_333}, {[]int64{-top, top, -1, 0, 0, 0, 1}, 0}, {slices.Repeat([]int64{7}, periods), 7}, {append(slices.Repeat([]int64{7}, periods-1), 33), 7}, {append(slices.Repeat([]int64{7}, periods-1), 34), 8},
	} {
		y := begun(t, 0, paid(c.pays...)...)
		want := year.Average{Cash: c.want, Net: c.want, Pay: c.want}
		if got, e := y.Averages(1, len(c.pays)); e != api.OK || got != want {
			t.Errorf("Averages of %v: %v, %v, not %v", c.pays, got, e, want)
		}
	}
	y := begun(t, 1, example(), hung(2, bases(1001, 0, 0), 103, 0, row(55, 70), 60))
	if got, e := y.Averages(1, 2); e != api.OK || got != (year.Average{Cash: 1001, Tax: 102, Net: 847, Pay: 792}) {
		t.Errorf("Averages of tax, net pay and pay: %v, %v", got, e)
	}
}

// P19.4: a period up to itself, both counted, is its payslip alone, whatever stands ahead of it and behind it.
func TestBetweenOne(t *testing.T) {
	list := []api.Slip{
		hung(1, bases(800, 700, 600), 80, 1, row(40, 60), 10),
		hung(2, bases(850, 750, 650), 85, -2, row(45, 65), 20, 30),
		hung(3, bases(-900, 0, -650), -90, 3, row(-50, -70)),
	}
	want := []year.Totals{
		{Bases: bases(800, 700, 600), Tax: 80, Shortfall: 1, Shares: row(40, 60), Net: 680, Taken: 10, Pay: 670},
		{Bases: bases(850, 750, 650), Tax: 85, Shortfall: -2, Shares: row(45, 65), Net: 720, Taken: 50, Pay: 670},
		{Bases: bases(-900, 0, -650), Tax: -90, Shortfall: 3, Shares: row(-50, -70), Net: -760, Pay: -760},
	}
	y := begun(t, 1, list...)
	for i, w := range want {
		if got, e := y.Between(i+1, i+1); e != api.OK || !like(got, w) {
			t.Errorf("Between(%d, %d): %v, %v, not %v", i+1, i+1, got, e, w)
		}
		mean := year.Average{Cash: w.Cash, Tax: w.Tax, Net: w.Net, Pay: w.Pay}
		if got, e := y.Averages(i+1, i+1); e != api.OK || got != mean {
			t.Errorf("Averages(%d, %d): %v, %v, not %v", i+1, i+1, got, e, mean)
		}
	}
	stands(t, y, 1, list...)
	// The last period that may be, too, and one of the most.
	y = begun(t, 0, paid(append(slices.Repeat([]int64{-9}, periods-1), top)...)...)
	if got, e := y.Between(periods, periods); e != api.OK || !like(got, year.Totals{Bases: bases(top, 0, 0), Net: top, Pay: top}) {
		t.Errorf("Between(%d, %d): %v, %v", periods, periods, got, e)
	}
	if got, e := y.Averages(periods, periods); e != api.OK || got != (year.Average{Cash: top, Net: top, Pay: top}) {
		t.Errorf("Averages(%d, %d): %v, %v", periods, periods, got, e)
	}
}

// P19.4: periods that aren't there, or of which the one is ahead of the other.
func TestBetweenRefuses(t *testing.T) {
	for _, many := range []int{0, 1, 2, 5} {
		y := begun(t, 0, paid(slices.Repeat([]int64{9}, many)...)...)
		for _, c := range [][2]int{{0, 0}, {0, 1}, {0, many}, {-1, 1}, {math.MinInt, many}, {1, many + 1}, {many, many + 1}, {many + 1, many + 1}, {many + 1, many + 2}, {1, math.MaxInt}, {math.MinInt, math.MaxInt}, {math.MaxInt, math.MinInt}, {2, 1}, {many + 1, 1}, {many, 0}, {many, many - 1}, {-1, -1}, {math.MinInt, math.MinInt}, {math.MaxInt, math.MaxInt}} {
			if got, e := y.Between(c[0], c[1]); e != api.ErrMissing || !like(got, year.Totals{}) {
				t.Errorf("Between(%d, %d) of %d: %v, %v", c[0], c[1], many, got, e)
			}
			if got, e := y.Averages(c[0], c[1]); e != api.ErrMissing || got != (year.Average{}) {
				t.Errorf("Averages(%d, %d) of %d: %v, %v", c[0], c[1], many, got, e)
			}
		}
	}
}

// P19.4: the first of the greatest pays.
func TestGreatest(t *testing.T) {
	for _, c := range []struct {
		pays []int64
		want int
	}{
		{nil, 0}, {[]int64{5}, 1}, {[]int64{0}, 1}, {[]int64{-top}, 1}, {[]int64{-5, -4}, 2}, {[]int64{-4, -5}, 1}, {[]int64{-4, -4}, 1}, {[]int64{1, 3, 2, 3}, 2}, {[]int64{1, 2, 3}, 3}, {[]int64{0, 0, 0}, 1}, {[]int64{-1, 0, 0}, 2},
	} {
		if got := begun(t, 0, paid(c.pays...)...).Greatest(); got != c.want {
			t.Errorf("Greatest of %v: %d, not %d", c.pays, got, c.want)
		}
	}
	// It is of the pay, not of the cash, nor of the net pay.
	y := begun(t, 0, hung(1, bases(1000, 0, 0), 0, 0, nil, 900), hung(2, bases(900, 0, 0), 400, 0, nil), hung(3, bases(500, 0, 0), 50, 0, nil, 1))
	if got := y.Greatest(); got != 2 {
		t.Errorf("Greatest: %d", got)
	}
}

// P19.3: each field counts; no contributions are the same as none.
func TestSame(t *testing.T) {
	whole := func() year.Totals {
		return year.Totals{Bases: bases(1, 2, 3), Tax: 4, Shortfall: 5, Shares: row(6, 7, 8, 9), Net: 10, Taken: 11, Pay: 12}
	}
	if !year.Same(whole(), whole()) || !year.Same(year.Totals{}, year.Totals{}) {
		t.Error("not the same")
	}
	x := whole()
	for i, to := range []*int64{&x.Cash, &x.Taxable, &x.Social, &x.Tax, &x.Shortfall, &x.Shares[0].Employee, &x.Shares[0].Employer, &x.Shares[1].Employee, &x.Shares[1].Employer, &x.Net, &x.Taken, &x.Pay} {
		for _, by := range []int64{1, -1, math.MinInt64} {
			*to += by
			if year.Same(x, whole()) || year.Same(whole(), x) {
				t.Errorf("the same, but for the amount %d", i)
			}
			*to -= by
		}
	}
	none, empty, one, other := whole(), whole(), whole(), whole()
	none.Shares, empty.Shares, one.Shares, other.Shares = nil, social.Row{}, row(0, 0), row(8, 9, 6, 7)
	if !year.Same(none, empty) || !year.Same(empty, none) {
		t.Error("no contributions aren't the same as none")
	}
	if year.Same(none, one) || year.Same(one, empty) || year.Same(none, whole()) || year.Same(whole(), other) {
		t.Error("other contributions are the same")
	}
}

// P19.3: a clone is of its own: what is posted in one of both isn't in the other.
func TestClone(t *testing.T) {
	r := rand.New(rand.NewSource(199))
	for many := range 10 {
		list := some(r, 2, many+2)
		y := begun(t, 2, list[:many]...)
		twin := y.Clone()
		stands(t, twin, 2, list[:many]...)
		other := list[many]
		other.Tax, other.Net, other.Pay = other.Tax+5, other.Net-5, other.Pay-5
		if e := twin.Post(other); e != api.OK {
			t.Fatal(e)
		}
		stands(t, y, 2, list[:many]...)
		for _, s := range list[many:] {
			if e := y.Post(s); e != api.OK {
				t.Fatal(e)
			}
		}
		stands(t, y, 2, list...)
		stands(t, twin, 2, append(slices.Clone(list[:many]), other)...)
	}
	stands(t, begun(t, 3).Clone(), 3)
}

// spoil changes a payslip's lists, and their spare room.
func spoil(list ...api.Slip) {
	for _, s := range list {
		shares, taken := s.Shares[:cap(s.Shares)], s.Taken[:cap(s.Taken)]
		for i := range shares {
			shares[i] = api.Share{Employee: -77, Employer: -77}
		}
		for i := range taken {
			taken[i] = api.Taken{Order: -77}
		}
	}
}

// spoilt changes contributions, and their spare room.
func spoilt(list ...year.Totals) {
	for _, all := range list {
		spoil(api.Slip{Shares: all.Shares})
	}
}

// P2: what is handed in stays as it is, its spare room too, and isn't kept; no answer shares anything with another one, nor with what is kept.
func TestMemory(t *testing.T) {
	shares, taken := row(1, 2, 3, 4, -9, -9), takes(5, 6, -9)
	s := hung(1, bases(1000, 0, 0), 100, 0, shares[:2], 5, 6)
	s.Taken = taken[:2]
	was, wasTaken := slices.Clone(shares), slices.Clone(taken)
	next := hung(2, bases(1000, 0, 0), 100, 0, row(1, 2, 3, 4), 7)
	y := begun(t, 2)
	year.Check(s, 2)
	y.Try(s)
	if e := y.Post(s); e != api.OK {
		t.Fatal(e)
	}
	if e := y.Post(next); e != api.OK {
		t.Fatal(e)
	}
	if !slices.Equal(shares, was) || !slices.Equal(taken, wasTaken) {
		t.Errorf("what is handed in was changed: %v, %v", shares, taken)
	}
	whole := []api.Slip{hung(1, bases(1000, 0, 0), 100, 0, row(1, 2, 3, 4), 5, 6), hung(2, bases(1000, 0, 0), 100, 0, row(1, 2, 3, 4), 7)}
	spoil(s, next)
	stands(t, y, 2, whole...)
	twin := y.Clone()
	third := hung(3, bases(1000, 0, 0), 100, 0, row(1, 2, 3, 4))
	tell := func() ([]year.Totals, []api.Slip) {
		tried, _ := y.Try(third)
		upto, _ := y.Upto(2)
		one, _ := y.Upto(1)
		none, _ := y.Upto(0)
		some, _ := y.Between(1, 2)
		last, _ := y.Between(2, 2)
		slip, _ := y.Slip(1)
		return []year.Totals{tried, y.Totals(), upto, one, none, some, last, y.Clone().Totals()}, append(y.Slips(), append(y.Clone().Slips(), slip)...)
	}
	totals, slips := tell()
	told := fmt.Sprint(totals, slips)
	moreTotals, moreSlips := tell()
	spoilt(moreTotals...)
	spoil(moreSlips...)
	list := y.Slips()
	clear(list[:cap(list)])
	if got := fmt.Sprint(totals, slips); got != told {
		t.Errorf("another answer was changed: %s, not %s", got, told)
	}
	for i := range totals {
		spoilt(totals[i])
		for j := range totals {
			if j > i && slices.Contains(totals[j].Shares, api.Share{Employee: -77, Employer: -77}) {
				t.Errorf("the totals %d and %d share memory", i, j)
			}
		}
	}
	stands(t, y, 2, whole...)
	stands(t, twin, 2, whole...)
	spoil(twin.Slips()...)
	if e := y.Post(third); e != api.OK {
		t.Fatal(e)
	}
	stands(t, y, 2, append(whole, third)...)
	stands(t, twin, 2, whole...)
}

// wild: a payslip of any numbers.
func wild(r *rand.Rand) api.Slip {
	amount := func() int64 {
		if r.Intn(2) == 0 {
			return r.Int63n(9)
		}
		return edges[r.Intn(len(edges))]
	}
	s := api.Slip{Period: []int{math.MinInt, -1, 0, 1, 1, 2, 2, 53, 54, math.MaxInt}[r.Intn(10)], Bases: bases(amount(), amount(), amount()), Tax: amount(), Shortfall: amount(), Net: amount(), Pay: amount()}
	for range r.Intn(3) {
		s.Shares = append(s.Shares, api.Share{Employee: amount(), Employer: amount()})
		s.Taken = append(s.Taken, api.Taken{Order: int(amount()), Brought: amount(), Ordered: amount(), Due: amount(), Taken: amount(), Carried: amount()})
	}
	return s
}

// P1, P2: no call panics, whatever it is given; beside an error all is zero; the same calls answer the same.
func TestEnds(t *testing.T) {
	r := rand.New(rand.NewSource(19))
	numbers := []int{math.MinInt, -1, 0, 1, 2, 3, 4, 53, 54, most, most + 1, math.MaxInt}
	number := func() int { return numbers[r.Intn(len(numbers))] }
	for range 10_000 {
		n, from, to, size := number(), number(), number(), r.Intn(3)
		list := append(some(r, size, r.Intn(4)), wild(r), wild(r))
		told := func() string {
			defer func() {
				if why := recover(); why != nil {
					t.Errorf("%d, %d, %d, %v: %v", n, from, to, list, why)
				}
			}()
			text := ""
			tell := func(x year.Totals, e api.Errno) {
				if e != api.OK && !like(x, year.Totals{}) {
					t.Errorf("%v beside %v", x, e)
				}
				text += fmt.Sprint(x, e)
			}
			y, e := year.New(n)
			if e != api.OK {
				if y != nil {
					t.Errorf("a year beside %v", e)
				}
				y, _ = year.New(size)
			}
			for _, s := range list {
				text += fmt.Sprint(year.Check(s, n), year.Check(s, size))
				tell(y.Try(s))
				text += fmt.Sprint(y.Post(s))
			}
			tell(y.Between(from, to))
			tell(y.Upto(from))
			average, e := y.Averages(from, to)
			slip, e2 := y.Slip(from)
			if e != api.OK && average != (year.Average{}) || e2 != api.OK && !alike(slip, api.Slip{}) {
				t.Errorf("%v, %v beside %v, %v", average, slip, e, e2)
			}
			twin := y.Clone()
			return text + fmt.Sprint(average, e, slip, e2, y.Count(), y.Greatest(), y.Totals(), twin.Slips(), year.Same(y.Totals(), twin.Totals()))
		}
		if told() != told() {
			t.Errorf("the same calls answer otherwise: %d, %d, %d, %v", n, from, to, list)
		}
	}
}
