package post_test

import (
	"fmt"
	"math"
	"math/rand"
	"reflect"
	"slices"
	"sort"
	"strings"
	"testing"

	"stipend/api"
	"stipend/money"
	"stipend/post"
)

const (
	top      = 100_000_000_000 // as the document tells them
	vouchers = 1024
	note     = 64
)

// edges: numbers at which something may go over.
var edges = []int64{math.MinInt64, math.MinInt64 + 1, -top * 2, -top - 1, -top, -top + 1, -top / 2, -100, -1, 0, 1, 50, 1000, top / 2, top - 1, top, top + 1, top * 2, math.MaxInt64 - 1, math.MaxInt64}

// may: may an amount be?
func may(x int64) bool { return x >= -top && x <= top }

// named: a table of contributions of these names.
func named(names ...string) api.Table {
	t := api.Table{}
	for _, name := range names {
		t.Contribs = append(t.Contribs, api.Contrib{Name: name})
	}
	return t
}

// all: entries, of an account and an amount in turn.
func all(list ...any) []post.Entry {
	var entries []post.Entry
	for i := 0; i+1 < len(list); i += 2 {
		entries = append(entries, post.Entry{Account: list[i].(string), Amount: int64(list[i+1].(int))})
	}
	return entries
}

// hung: a payslip that hangs together.
func hung(cash, tax int64, shares []api.Share, taken ...int64) api.Slip {
	s := api.Slip{Period: 1, Bases: api.Bases{Cash: cash, Taxable: 7, Social: 9}, Tax: tax, Shortfall: 5, Shares: shares}
	s.Net = cash - tax
	for _, x := range shares {
		s.Net -= x.Employee
	}
	s.Pay = s.Net
	for i, x := range taken {
		s.Pay -= x
		s.Taken = append(s.Taken, api.Taken{Order: i + 1, Brought: 3, Ordered: x, Due: x + 3, Taken: x, Carried: 3})
	}
	return s
}

// same: are two answers the same, where lists of nothing are the same as none?
func same(a, b any) bool { return fmt.Sprintf("%+v", a) == fmt.Sprintf("%+v", b) }

// P22.1: a payslip's entries, in their order; those of nothing are left out.
func TestOf(t *testing.T) {
	for i, c := range []struct {
		t    api.Table
		s    api.Slip
		want []post.Entry
	}{
		{named("care"), hung(1000, 100, []api.Share{{Employee: 50, Employer: 60}}, 50), all("wages", 1000, "burden", 60, "tax", -100, "fund-care", -110, "orders", -50, "bank", -800)},
		{named("care", "b"), hung(1000, 100, []api.Share{{Employee: 50, Employer: 60}, {Employee: 7, Employer: 0}}, 50, 30), all("wages", 1000, "burden", 60, "tax", -100, "fund-care", -110, "fund-b", -7, "orders", -80, "bank", -763)},
		{named("b", "a", "b"), hung(0, 0, []api.Share{{Employee: 1, Employer: 2}, {Employee: -3, Employer: 3}, {Employee: 2, Employer: 2}}), all("burden", 7, "fund-b", -3, "fund-b", -4)},
		{named(), hung(1000, 0, nil), all("wages", 1000, "bank", -1000)},
		{named(), hung(1000, 1000, nil), all("wages", 1000, "tax", -1000)},
		{named(), hung(0, -100, nil), all("tax", 100, "bank", -100)},
		{named(), hung(-1000, 0, nil), all("wages", -1000, "bank", 1000)},
		{named(), hung(100, 0, nil, 100), all("wages", 100, "orders", -100)},
		{named(), hung(100, 0, nil, 50, -50), all("wages", 100, "bank", -100)},
		{named("a"), hung(0, 0, []api.Share{{}}), nil},
		{named(), api.Slip{}, nil},
		{named("a"), hung(top, 0, []api.Share{{Employee: top}}), all("wages", top, "fund-a", -top)},
		{named("a"), hung(0, 0, []api.Share{{Employer: top}}), all("burden", top, "fund-a", -top)},
		{named("a"), hung(0, 0, []api.Share{{Employee: -top, Employer: top}}), all("burden", top, "bank", -top)},
		{named(strings.Repeat("a", 16)), hung(0, 0, []api.Share{{Employer: 1}}), all("burden", 1, "fund-"+strings.Repeat("a", 16), -1)},
	} {
		got, e := post.Of(c.t, c.s)
		if e != api.OK || !slices.Equal(got, c.want) {
			t.Errorf("%d: Of: %v, %v, not %v", i, got, e, c.want)
		}
		if e := post.Check(got...); e != api.OK {
			t.Errorf("%d: Check of its entries: %v", i, e)
		}
	}
}

// P22.1: the errors in their order: too many contributions or too few, their sides together, what orders took, both sides of one.
func TestOfRefuses(t *testing.T) {
	much, over := api.Share{Employee: top, Employer: 1}, []api.Taken{{Taken: top + 1}}
	for i, c := range []struct {
		t    api.Table
		s    api.Slip
		want api.Errno
	}{
		{named(), api.Slip{Shares: []api.Share{much}, Taken: over}, api.ErrMissing},
		{named("a", "b"), api.Slip{Shares: []api.Share{much}}, api.ErrMissing},
		{named("a"), api.Slip{}, api.ErrMissing},
		{named("a"), api.Slip{Shares: []api.Share{{Employee: top + 1}}}, api.ErrOverflow},
		{named("a", "b"), api.Slip{Shares: []api.Share{{Employer: top}, {Employer: 1}}}, api.ErrOverflow},
		{named("a", "b"), api.Slip{Shares: []api.Share{{Employee: -top}, {Employee: -1}}}, api.ErrOverflow},
		{named(), api.Slip{Taken: over}, api.ErrOverflow},
		{named(), api.Slip{Taken: []api.Taken{{Taken: top}, {Taken: 1}, {Taken: -1}}}, api.ErrOverflow},
		{named("a"), hung(top, 0, []api.Share{much}), api.ErrOverflow},
		{named("b", "a"), hung(0, 0, []api.Share{{}, {Employee: -1, Employer: -top}}), api.ErrOverflow},
	} {
		if got, e := post.Of(c.t, c.s); e != c.want || len(got) != 0 {
			t.Errorf("%d: Of: %v, %v, not %v", i, got, e, c.want)
		}
	}
}

// P22.1, P22.2: of payslips by chance, the entries come to nothing together.
func TestOfMany(t *testing.T) {
	r := rand.New(rand.NewSource(22))
	amount := func() int64 { return r.Int63n(400) - 100 }
	for range 3000 {
		names, shares := []string{"a", "b", "a-very-long-name"}[:r.Intn(4)], []api.Share{}
		var fund []int64
		burden := int64(0)
		for range names {
			x := api.Share{Employee: amount(), Employer: amount()}
			shares, fund, burden = append(shares, x), append(fund, x.Employee+x.Employer), burden+x.Employer
		}
		taken := []int64{amount(), amount()}[:r.Intn(3)]
		s := hung(amount()*5, amount(), shares, taken...)
		var want []post.Entry
		put := func(account string, x int64) {
			if x != 0 {
				want = append(want, post.Entry{Account: account, Amount: x})
			}
		}
		put("wages", s.Cash)
		put("burden", burden)
		put("tax", -s.Tax)
		for i, name := range names {
			put("fund-"+name, -fund[i])
		}
		put("orders", s.Pay-s.Net)
		put("bank", -s.Pay)
		got, e := post.Of(named(names...), s)
		if e != api.OK || !slices.Equal(got, want) || post.Check(got...) != api.OK {
			t.Fatalf("Of(%v): %v, %v, not %v", s, got, e, want)
		}
	}
}

// P22.2: the first entry's error, the amount's ahead of the account's, then that of all.
func TestCheck(t *testing.T) {
	long := strings.Repeat("a", 16)
	for i, c := range []struct {
		list []post.Entry
		want api.Errno
	}{
		{nil, api.OK}, {all("a", 0), api.OK}, {all("a", 5, "a", -5), api.OK}, {all("a", top, "b", -top), api.OK}, {all("a", top, "b", top, "c", -top, "d", -top), api.OK}, {all("wages", 3, "fund-care", -2, "x-1-", -1), api.OK},
		{all(long, 1, "fund-"+long, -1), api.OK}, {all("fund-", 1, "fund-fund-a", -1), api.OK}, {all("fund", 0, "fund-1", 0), api.OK}, {all("fund-b2345678901", 0), api.OK},
		{all("a", 1), api.ErrOrder}, {all("a", top, "b", -top+1), api.ErrOrder}, {all("a", 1, "a", 1), api.ErrOrder},
		{all("a", top+1), api.ErrOverflow}, {all("a", -top-1, "b", top+1), api.ErrOverflow}, {all("", top+1), api.ErrOverflow}, {all("a", math.MinInt64), api.ErrOverflow}, {all("a", 1, "A", math.MaxInt64), api.ErrOverflow},
		{all("A", 0), api.ErrForm}, {all("", 0), api.ErrForm}, {all("1a", 0), api.ErrForm}, {all("-", 0), api.ErrForm}, {all("a b", 0), api.ErrForm}, {all("a\xff", 0), api.ErrForm}, {all(long+"a", 0), api.ErrForm}, {all("fund-"+long+"a", 0), api.ErrForm}, {all("fund-A", 0), api.ErrForm}, {all("fund-1234567890123", 0), api.ErrForm}, {all("fund-fund-"+long, 0), api.ErrForm}, {all("Fund-a", 0), api.ErrForm}, {all("fund- a", 0), api.ErrForm}, {all("fund--aaaaaaaaaaaaaaa", 0), api.ErrForm},
		{all("A", 1, "a", top+1), api.ErrForm}, {all("a", top+1, "A", 1), api.ErrOverflow}, {all("a", 1, "b", 1, "C", -2), api.ErrForm}, {all("a", 1, "C", 5), api.ErrForm},
	} {
		if e := post.Check(c.list...); e != c.want {
			t.Errorf("%d: Check(%v): %v, not %v", i, c.list, e, c.want)
		}
	}
	// Many of the most: together they are far beyond it, but come to nothing.
	many := append(slices.Repeat(all("a", top), 1000), slices.Repeat(all("b", -top), 1000)...)
	if e := post.Check(many...); e != api.OK {
		t.Errorf("Check of many: %v", e)
	}
	if e := post.Check(many[:1999]...); e != api.ErrOrder {
		t.Errorf("Check of many less one: %v", e)
	}
}

// books: what is common to a book and a journal.
type books interface {
	Post(list ...post.Entry) api.Errno
	On(account string) int64
	Entries() int
	Balances() []post.Entry
	Lines() []string
}

// stands tells a test's fault, if other than this stands on a book's accounts, or other than so many were booked.
func stands(t *testing.T, b books, entries int, on map[string]int64) {
	t.Helper()
	var want []post.Entry
	var lines []string
	for account, x := range on {
		if b.On(account) != x {
			t.Errorf("On(%s): %d, not %d", account, b.On(account), x)
		}
		if x != 0 {
			want = append(want, post.Entry{Account: account, Amount: x})
		}
	}
	sort.Slice(want, func(i, j int) bool { return want[i].Account < want[j].Account })
	for _, x := range want {
		lines = append(lines, x.Account+" "+money.Text(x.Amount))
	}
	if got := b.Balances(); !slices.Equal(got, want) {
		t.Errorf("Balances: %v, not %v", got, want)
	}
	if got := b.Lines(); !slices.Equal(got, lines) {
		t.Errorf("Lines: %q, not %q", got, lines)
	}
	if got := b.Entries(); got != entries {
		t.Errorf("Entries: %d, not %d", got, entries)
	}
	for _, account := range []string{"", "none", "Wages", "fund-"} {
		if _, ok := on[account]; !ok && b.On(account) != 0 {
			t.Errorf("On(%q): %d", account, b.On(account))
		}
	}
}

// P22.3, P22.4: the document's example, by the names of the accounts.
func TestBookExample(t *testing.T) {
	b := post.New()
	stands(t, b, 0, nil)
	list, e := post.Of(named("care"), hung(1000, 100, []api.Share{{Employee: 50, Employer: 60}}, 50))
	if e != api.OK || b.Post(list...) != api.OK {
		t.Fatal("Of, Post")
	}
	want := "bank -8.00, burden 0.60, fund-care -1.10, orders -0.50, tax -1.00, wages 10.00"
	if got := strings.Join(b.Lines(), ", "); got != want {
		t.Errorf("Lines: %s, not %s", got, want)
	}
	stands(t, b, 6, map[string]int64{"bank": -800, "burden": 60, "fund-care": -110, "orders": -50, "tax": -100, "wages": 1000})
	if e := b.Post(post.Reverse(list...)...); e != api.OK {
		t.Fatal(e)
	}
	stands(t, b, 12, map[string]int64{"bank": 0, "wages": 0})
}

// P22.3: what may not be booked changes nothing; what stands between counts, too.
func TestPostRefuses(t *testing.T) {
	b := post.New()
	if e := b.Post(all("a", top, "b", -top, "c", 5, "d", -5)...); e != api.OK {
		t.Fatal(e)
	}
	on := map[string]int64{"a": top, "b": -top, "c": 5, "d": -5}
	for i, c := range []struct {
		list []post.Entry
		want api.Errno
	}{
		{all("a", 1), api.ErrOrder}, {all("c", 1, "a", 1), api.ErrOrder}, {all("A", 1), api.ErrForm}, {all("a", top+1), api.ErrOverflow}, {all("c", 1, "D", -1), api.ErrForm},
		{all("a", 1, "c", -1), api.ErrOverflow}, {all("c", -1, "a", 1), api.ErrOverflow}, {all("c", 1, "b", -1), api.ErrOverflow}, {all("new", -1, "a", 1), api.ErrOverflow},
		{all("a", 1, "a", -1), api.ErrOverflow}, {all("b", -1, "b", 1), api.ErrOverflow}, {all("a", -top, "a", -top, "a", -1, "c", top, "d", top, "e", 1), api.ErrOverflow}, {all("e", top, "e", 1, "e", -top, "c", -1), api.ErrOverflow},
	} {
		if e := b.Post(c.list...); e != c.want {
			t.Errorf("%d: Post(%v): %v, not %v", i, c.list, e, c.want)
		}
		stands(t, b, 4, on)
	}
	for _, list := range [][]post.Entry{nil, all("a", -1, "a", 1), all("b", 1, "b", -1), all("c", 0), all("new", 0), all("e", top, "e", -top, "e", -top, "e", top)} {
		if e := b.Post(list...); e != api.OK {
			t.Errorf("Post(%v): %v", list, e)
		}
	}
	stands(t, b, 4+2+2+1+1+4, on)
	if e := b.Post(all("a", -top, "a", -top, "b", top, "b", top)...); e != api.OK {
		t.Error(e)
	}
	stands(t, b, 18, map[string]int64{"a": -top, "b": top, "c": 5, "d": -5})
}

// some: entries by chance, that mostly come to nothing together.
func some(r *rand.Rand) []post.Entry {
	accounts := []string{"a", "b", "bank", "fund-a", "fund-abcdefghijklmnop", "zz", "z", "a-1"}
	var list []post.Entry
	left := int64(0)
	for range r.Intn(5) {
		x := post.Entry{Account: accounts[r.Intn(len(accounts))], Amount: r.Int63n(9) - 4}
		if r.Intn(6) == 0 {
			x.Amount = (r.Int63n(3) - 1) * top
		}
		list, left = append(list, x), left-x.Amount
	}
	if r.Intn(20) > 0 {
		list = append(list, post.Entry{Account: accounts[r.Intn(len(accounts))], Amount: left})
	}
	if r.Intn(20) == 0 {
		list = append(list, post.Entry{Account: []string{"", "A", "fund-abcdefghijklmnopq"}[r.Intn(3)]})
	}
	return list
}

// booked: what must stand on accounts behind entries, and the error.
func booked(on map[string]int64, list []post.Entry) (map[string]int64, api.Errno) {
	behind, left := map[string]int64{}, int64(0)
	for account, x := range on {
		behind[account] = x
	}
	for _, x := range list {
		if !may(x.Amount) {
			return on, api.ErrOverflow
		}
		if x.Account == "" || x.Account[0] == 'A' || len(x.Account) > 21 {
			return on, api.ErrForm
		}
		left += x.Amount
	}
	if left != 0 {
		return on, api.ErrOrder
	}
	for _, x := range list {
		if behind[x.Account] += x.Amount; !may(behind[x.Account]) {
			return on, api.ErrOverflow
		}
	}
	return behind, api.OK
}

// P22.3, P22.4: books step by step against a model.
func TestBookMany(t *testing.T) {
	r := rand.New(rand.NewSource(223))
	told := map[api.Errno]int{}
	for range 150 {
		b, on, entries := post.New(), map[string]int64{}, 0
		for range r.Intn(40) {
			list := some(r)
			behind, want := booked(on, list)
			if e := b.Post(list...); e != want {
				t.Fatalf("Post(%v) on %v: %v, not %v", list, on, e, want)
			}
			if on = behind; want == api.OK {
				entries += len(list)
			}
			told[want]++
			stands(t, b, entries, on)
		}
	}
	for _, e := range []api.Errno{api.OK, api.ErrOverflow, api.ErrOrder, api.ErrForm} {
		if told[e] < 20 {
			t.Errorf("only %d times %v", told[e], e)
		}
	}
}

// P22.5: entries with the other sign.
func TestReverse(t *testing.T) {
	if got := post.Reverse(); len(got) != 0 {
		t.Errorf("Reverse: %v", got)
	}
	list := all("a", 5, "b", 0, "a", -top, "no name", math.MaxInt64)
	if got, want := post.Reverse(list...), all("a", -5, "b", 0, "a", top, "no name", -math.MaxInt64); !slices.Equal(got, want) {
		t.Errorf("Reverse: %v, not %v", got, want)
	}
	if got := post.Reverse(post.Reverse(list...)...); !slices.Equal(got, list) {
		t.Errorf("Reverse twice: %v", got)
	}
}

// entered: a voucher more, by its number.
func entered(t *testing.T, j *post.Journal, want int, text string, list ...post.Entry) {
	t.Helper()
	if n, e := j.Enter(text, list...); n != want || e != api.OK {
		t.Fatalf("Enter(%q, %v): %d, %v, not %d", text, list, n, e, want)
	}
}

// P22.5: vouchers and moves; what is booked by Post itself has no voucher.
func TestJournal(t *testing.T) {
	j := post.Keep()
	stands(t, j, 0, nil)
	if len(j.Vouchers()) != 0 || len(j.Account("a")) != 0 {
		t.Error("a journal without vouchers has some")
	}
	entered(t, j, 1, "", all("a", 5, "b", -5)...)
	if e := j.Post(all("a", 100, "c", -100)...); e != api.OK {
		t.Fatal(e)
	}
	entered(t, j, 2, `pay # of "x"`[:9], all("b", 2, "a", 3, "b", 4, "c", -9)...)
	entered(t, j, 3, "nothing")
	entered(t, j, 4, "zero", all("a", 0, "b", 7, "b", -7)...)
	if n, e := j.Undo(2); n != 5 || e != api.OK {
		t.Errorf("Undo: %d, %v", n, e)
	}
	if n, e := j.Undo(5); n != 6 || e != api.OK {
		t.Errorf("Undo of an undone one: %d, %v", n, e)
	}
	stands(t, j, 2+2+4+3+4+4, map[string]int64{"a": 108, "b": 1, "c": -109})
	second := all("b", 2, "a", 3, "b", 4, "c", -9)
	want := []post.Voucher{{1, "", all("a", 5, "b", -5)}, {2, "pay # of ", second}, {3, "nothing", nil}, {4, "zero", all("a", 0, "b", 7, "b", -7)}, {5, "undo 2", post.Reverse(second...)}, {6, "undo 5", second}}
	if got := j.Vouchers(); !same(got, want) {
		t.Errorf("Vouchers: %v, not %v", got, want)
	}
	for account, want := range map[string][]post.Move{
		"a":    {{1, 5, 5}, {2, 3, 8}, {4, 0, 8}, {5, -3, 5}, {6, 3, 8}},
		"b":    {{1, -5, -5}, {2, 6, 1}, {4, 0, 1}, {5, -6, -5}, {6, 6, 1}},
		"c":    {{2, -9, -9}, {5, 9, 0}, {6, -9, -9}},
		"none": nil, "": nil,
	} {
		if got := j.Account(account); !slices.Equal(got, want) {
			t.Errorf("Account(%s): %v, not %v", account, got, want)
		}
	}
}

// P22.5: the errors in their order: the note is too long, or no note, the entries; what is refused has no number.
func TestJournalRefuses(t *testing.T) {
	j := post.Keep()
	entered(t, j, 1, strings.Repeat("n", note), all("a", top, "b", -top)...)
	for i, c := range []struct {
		note string
		list []post.Entry
		want api.Errno
	}{
		{strings.Repeat("n", note+1), nil, api.ErrLong}, {strings.Repeat("\"", note+1), all("a", 1), api.ErrLong},
		{"\"", nil, api.ErrForm}, {"a\x1f", all("A", 1), api.ErrForm}, {"\x7f", nil, api.ErrForm}, {"é", all("a", top+1), api.ErrForm}, {"a\n", nil, api.ErrForm},
		{"so", all("a", 1), api.ErrOrder}, {"so", all("A", 0), api.ErrForm}, {"so", all("a", 1, "c", -1), api.ErrOverflow}, {"so", all("c", top+1), api.ErrOverflow},
	} {
		if n, e := j.Enter(c.note, c.list...); n != 0 || e != c.want {
			t.Errorf("%d: Enter: %d, %v, not %v", i, n, e, c.want)
		}
	}
	for _, number := range []int{math.MinInt, -1, 0, 2, 3, math.MaxInt} {
		if n, e := j.Undo(number); n != 0 || e != api.ErrMissing {
			t.Errorf("Undo(%d): %d, %v", number, n, e)
		}
	}
	if e := j.Post(all("b", top, "b", top, "a", -top, "a", -top)...); e != api.OK {
		t.Fatal(e)
	}
	if n, e := j.Undo(1); n != 0 || e != api.ErrOverflow {
		t.Errorf("Undo: %d, %v", n, e)
	}
	stands(t, j, 6, map[string]int64{"a": -top, "b": top})
	if got := j.Vouchers(); len(got) != 1 {
		t.Errorf("Vouchers: %v", got)
	}
	entered(t, j, 2, " ", all("c", 1, "d", -1)...)
}

// P22.5: there are 1024 vouchers at most; more is told ahead of what is wrong with the note or the entries.
func TestJournalFull(t *testing.T) {
	j := post.Keep()
	for n := 1; n < vouchers; n++ {
		entered(t, j, n, "so", all("a", 1, "b", -1)...)
	}
	if n, e := j.Undo(1); n != vouchers || e != api.OK {
		t.Errorf("Undo: %d, %v", n, e)
	}
	for i, text := range []string{"so", "\"", strings.Repeat("n", note+1)} {
		if n, e := j.Enter(text, all("a", 1)...); n != 0 || e != api.ErrLong {
			t.Errorf("%d: Enter: %d, %v", i, n, e)
		}
	}
	if n, e := j.Undo(vouchers + 1); n != 0 || e != api.ErrMissing {
		t.Errorf("Undo: %d, %v", n, e)
	}
	if n, e := j.Undo(vouchers); n != 0 || e != api.ErrLong {
		t.Errorf("Undo: %d, %v", n, e)
	}
	if e := j.Post(all("a", 1, "b", -1)...); e != api.OK {
		t.Errorf("Post: %v", e)
	}
	stands(t, j, 2*vouchers+2, map[string]int64{"a": vouchers - 1, "b": 1 - vouchers})
	if got := j.Account("a"); len(got) != vouchers || got[vouchers-1] != (post.Move{Number: vouchers, Amount: -1, Balance: vouchers - 2}) {
		t.Errorf("Account: %v", got[len(got)-1])
	}
}

// P22.5: journals step by step against a model.
func TestJournalMany(t *testing.T) {
	r := rand.New(rand.NewSource(225))
	for range 150 {
		j, on, entries := post.Keep(), map[string]int64{}, 0
		var want []post.Voucher
		for range r.Intn(40) {
			list, text, undo := some(r), "so", 0
			if len(want) > 0 && r.Intn(4) == 0 {
				undo = 1 + r.Intn(len(want))
				list, text = nil, fmt.Sprintf("undo %d", undo)
				for _, x := range want[undo-1].Entries {
					list = append(list, post.Entry{Account: x.Account, Amount: -x.Amount})
				}
			}
			behind, e := booked(on, list)
			if on = behind; e == api.OK {
				entries += len(list)
			}
			n, got := 0, api.OK
			direct := undo == 0 && r.Intn(4) == 0
			switch {
			case direct:
				got = j.Post(list...)
			case undo > 0:
				n, got = j.Undo(undo)
			default:
				n, got = j.Enter(text, list...)
			}
			if !direct && e == api.OK {
				want = append(want, post.Voucher{Number: len(want) + 1, Note: text, Entries: list})
				if n != len(want) {
					t.Fatalf("the number is %d, not %d", n, len(want))
				}
			}
			if got != e || e != api.OK && n != 0 {
				t.Fatalf("%v: %d, %v, not %v", list, n, got, e)
			}
		}
		stands(t, j, entries, on)
		if got := j.Vouchers(); !same(got, want) {
			t.Fatalf("Vouchers: %v, not %v", got, want)
		}
		for _, account := range []string{"a", "b", "bank", "fund-a", "zz", "none"} {
			var moves []post.Move
			all := int64(0)
			for _, v := range want {
				move, found := post.Move{Number: v.Number}, false
				for _, x := range v.Entries {
					if x.Account == account {
						move.Amount, all, found = move.Amount+x.Amount, all+x.Amount, true
					}
				}
				if move.Balance = all; found {
					moves = append(moves, move)
				}
			}
			if got := j.Account(account); !slices.Equal(got, moves) {
				t.Fatalf("Account(%s): %v, not %v", account, got, moves)
			}
		}
	}
}

// P2: what is handed in stays as it is, its spare room too, and isn't kept; answers share nothing with one another, nor with what is kept.
func TestMemory(t *testing.T) {
	list := all("a", 5, "b", -5, "spare", 9)
	j := post.Keep()
	entered(t, j, 1, "so", list[:2]...)
	if got := post.Reverse(list[:2]...); !slices.Equal(got, all("a", -5, "b", 5)) || !slices.Equal(list, all("a", 5, "b", -5, "spare", 9)) {
		t.Errorf("a call changed its list: %v", list)
	}
	clear(list)
	tell := func() string {
		return fmt.Sprint(j.Vouchers(), j.Account("a"), j.Balances(), j.Lines(), j.Entries())
	}
	told := tell()
	balances, lines, moves, vouchers := j.Balances(), j.Lines(), j.Account("a"), j.Vouchers()
	clear(balances[:cap(balances)])
	clear(lines[:cap(lines)])
	clear(moves[:cap(moves)])
	for _, v := range vouchers {
		clear(v.Entries[:cap(v.Entries)])
	}
	clear(vouchers[:cap(vouchers)])
	if got := tell(); got != told {
		t.Errorf("an answer shares memory with what is kept: %s, not %s", got, told)
	}
	if n, e := j.Undo(1); n != 2 || e != api.OK {
		t.Errorf("Undo: %d, %v", n, e)
	}
	stands(t, j, 4, map[string]int64{"a": 0, "b": 0})
	x, s := named("care"), hung(1000, 100, []api.Share{{Employee: 50, Employer: 60}}, 50)
	was := fmt.Sprint(x, s)
	first, _ := post.Of(x, s)
	second, _ := post.Of(x, s)
	clear(second[:cap(second)])
	if fmt.Sprint(x, s) != was || len(first) != 6 || first[0].Amount != 1000 {
		t.Errorf("Of changed something, or its answers share memory: %v", first)
	}
}

// wild: entries of any accounts and amounts.
func wild(r *rand.Rand) []post.Entry {
	list := some(r)
	for range r.Intn(3) {
		list = append(list, post.Entry{Account: []string{"", "a", "fund-", "\xff\x00", strings.Repeat("x", 1000)}[r.Intn(5)], Amount: edges[r.Intn(len(edges))]})
	}
	return list
}

// P1, P2: no call panics, whatever it is given; beside an error all is zero; the same calls answer the same.
func TestEnds(t *testing.T) {
	for seed := range int64(3000) {
		told := func() (text string) {
			defer func() {
				if why := recover(); why != nil {
					t.Errorf("%d: %v", seed, why)
				}
			}()
			r := rand.New(rand.NewSource(seed))
			number := func() int64 { return edges[r.Intn(len(edges))] }
			s := api.Slip{Period: int(number()), Bases: api.Bases{Cash: number()}, Tax: number(), Net: number(), Pay: number()}
			for range r.Intn(3) {
				s.Shares = append(s.Shares, api.Share{Employee: number(), Employer: number()})
				s.Taken = append(s.Taken, api.Taken{Taken: number(), Carried: number()})
			}
			list, e := post.Of(named([]string{"", "\xff", "a"}[:r.Intn(4)]...), s)
			if e != api.OK && len(list) > 0 {
				t.Errorf("%v beside %v", list, e)
			}
			j := post.Keep()
			text = fmt.Sprint(list, e, post.Reverse(list...), post.Check(list...), j.Post(list...))
			for range 10 {
				list := wild(r)
				was := fmt.Sprint(j.Lines(), j.Entries(), j.Vouchers())
				n, e := j.Enter([]string{"", "so", "\"", "\x00", strings.Repeat("n", 65)}[r.Intn(5)], list...)
				if e != api.OK && (n != 0 || fmt.Sprint(j.Lines(), j.Entries(), j.Vouchers()) != was) {
					t.Errorf("beside %v: %d, or something changed", e, n)
				}
				u, e2 := j.Undo(int(number()))
				text += fmt.Sprint(n, e, u, e2, j.Lines(), j.Account("a"), j.On("\xff"), post.Check(list...), post.Reverse(list...))
			}
			return text
		}
		if a, b := told(), told(); !reflect.DeepEqual(a, b) {
			t.Fatalf("the same calls answer otherwise: %s, %s", a, b)
		}
	}
}
