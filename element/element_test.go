package element_test

import (
	"fmt"
	"math"
	"math/big"
	"math/rand"
	"reflect"
	"slices"
	"strings"
	"testing"
	"unsafe"

	"stipend/api"
	"stipend/element"
	"stipend/money"
	"stipend/word"
)

// The document's limits.
const (
	most     = 32
	once     = 100
	maxUnits = 100_000
	top      = 100_000_000_000
)

// edges: amounts at which something may go over, and those beyond.
var edges = []int64{
	math.MinInt64, math.MinInt64 + 1, -top * maxUnits, -top - 1, -top, -top + 1, -top / 10, -101, -100, -99, -51, -50, -49, -3, -2, -1, 0,
	1, 2, 3, 49, 50, 51, 99, 100, 101, 1250, 1 << 32, top / 1000, top/1000 + 1, top / 10, top - 1, top, top + 1, top * maxUnits, math.MaxInt64 - 1, math.MaxInt64,
}

// units: likewise, of how often.
var units = []int64{
	math.MinInt64, -1 << 32, -maxUnits, -101, -100, -1, 0, 1, 2, 33, 49, 50, 51, 67, 99, 100, 101, 150, 999, 1000, 3750, 99_900, 99_999,
	maxUnits, maxUnits + 1, 1 << 32, 1<<32 + 100, 1 << 62, math.MaxInt64,
}

func right(x int64) bool { return x >= -top && x <= top }

// worth: what Value must tell.
func worth(e api.Element) (int64, api.Errno) {
	if !right(e.Amount) {
		return 0, api.ErrOverflow
	}
	if e.Units < 0 || e.Units > maxUnits {
		return 0, api.ErrRange
	}
	all := new(big.Int).Mul(big.NewInt(e.Amount), big.NewInt(e.Units))
	all.Mul(all.Abs(all), big.NewInt(2)).Add(all, big.NewInt(once)).Quo(all, big.NewInt(2*once)) // of two as near ones the one farther from 0
	if all.Cmp(big.NewInt(top)) > 0 {
		return 0, api.ErrOverflow
	}
	if e.Amount < 0 {
		all.Neg(all)
	}
	return all.Int64(), api.OK
}

// one: an element of a kind of the sample.
func one(amount, units int64) api.Element {
	return api.Element{Kind: "hourly", Amount: amount, Units: units}
}

// sample: a table that may be.
func sample() api.Table {
	return api.Table{Round: api.Down, Schemes: [][]api.Band{{{}}}, Kinds: []api.Kind{{Name: "salary", Cash: 1}, {Name: "hourly", Taxable: 1}, {Name: "car", Social: -1}}}
}

func TestLimits(t *testing.T) {
	if element.Most != most || element.Once != once || element.MaxUnits != maxUnits {
		t.Error("the limits aren't the document's")
	}
}

// P11.1: the document's example, both signs, halves, the edges, and what is told first.
func TestValue(t *testing.T) {
	for _, c := range []struct {
		amount, units, want int64
		e                   api.Errno
	}{
		{1250, 3750, 46_875, api.OK}, {1000, 100, 1000, api.OK}, {1000, 0, 0, api.OK}, {0, 100_000, 0, api.OK}, {7, 100_000, 7000, api.OK}, {-1250, 200, -2500, api.OK},
		{1, 50, 1, api.OK}, {-1, 50, -1, api.OK}, {1, 49, 0, api.OK}, {-1, 49, 0, api.OK}, {1, 51, 1, api.OK}, {-1, 51, -1, api.OK}, {1, 150, 2, api.OK}, {-1, 150, -2, api.OK}, {3, 50, 2, api.OK}, {-3, 50, -2, api.OK}, {5, 50, 3, api.OK}, {-5, 50, -3, api.OK}, {1, 1, 0, api.OK}, {99, 99, 98, api.OK}, {-99, 99, -98, api.OK},
		{top, 100, top, api.OK}, {-top, 100, -top, api.OK}, {top, 101, 0, api.ErrOverflow}, {-top, 101, 0, api.ErrOverflow}, {top, 0, 0, api.OK}, {-top, 0, 0, api.OK}, {top, 99, top / 100 * 99, api.OK},
		{top / 1000, 100_000, top, api.OK}, {-top / 1000, 100_000, -top, api.OK}, {top/1000 + 1, 100_000, 0, api.ErrOverflow}, {-top/1000 - 1, 100_000, 0, api.ErrOverflow}, {top, 100_000, 0, api.ErrOverflow}, {-top, 100_000, 0, api.ErrOverflow},
		{5, -1, 0, api.ErrRange}, {5, 100_001, 0, api.ErrRange}, {0, -1, 0, api.ErrRange}, {0, 100_001, 0, api.ErrRange}, {top, 100_001, 0, api.ErrRange}, {top, math.MinInt64, 0, api.ErrRange}, {top, math.MaxInt64, 0, api.ErrRange},
		{top + 1, 100, 0, api.ErrOverflow}, {-top - 1, 100, 0, api.ErrOverflow}, {top + 1, 0, 0, api.ErrOverflow}, {top + 1, 1, 0, api.ErrOverflow}, {-top - 1, -1, 0, api.ErrOverflow}, {top + 1, 100_001, 0, api.ErrOverflow}, {math.MinInt64, math.MinInt64, 0, api.ErrOverflow}, {math.MaxInt64, -1, 0, api.ErrOverflow},
	} {
		if got, e := element.Value(one(c.amount, c.units)); got != c.want || e != c.e {
			t.Errorf("%d, %d hundredths of it: %d, %v, not %d, %v", c.amount, c.units, got, e, c.want, c.e)
		}
	}
}

// values tells a test's fault, if Value answers otherwise than it must; a kind of no name is worth as much.
func values(t *testing.T, amount, units int64) {
	t.Helper()
	for _, kind := range []string{"hourly", "", "No name\xff"} {
		x := api.Element{Kind: kind, Amount: amount, Units: units}
		want, wantE := worth(x)
		if got, e := element.Value(x); got != want || e != wantE {
			t.Errorf("Value(%v): %d, %v, not %d, %v", x, got, e, want, wantE)
		}
	}
}

// P11.1: against a reckoning in big numbers.
func TestValueAll(t *testing.T) {
	for _, amount := range edges {
		for _, n := range units {
			values(t, amount, n)
		}
	}
	for amount := int64(-60); amount <= 60; amount++ {
		for n := int64(-2); n <= 210; n++ {
			values(t, amount, n)
		}
	}
	r := rand.New(rand.NewSource(111))
	for range 3000 {
		values(t, r.Int63n(2*top+1)-top, r.Int63n(maxUnits+1))
	}
}

// P11.1: what is rounded to the most may be, and what is rounded beyond it may not.
func TestValueTop(t *testing.T) {
	to, beyond := 0, 0
	for n := int64(once + 1); n <= 2000; n++ {
		for _, amount := range []int64{top * once / n, top*once/n + 1} {
			values(t, amount, n)
			values(t, -amount, n)
			switch over := amount*n - top*once; {
			case over > 0 && over < once/2:
				to++
			case over == once/2:
				beyond++
			}
		}
	}
	if to == 0 || beyond == 0 {
		t.Errorf("%d are rounded down to the most, %d halves beyond it", to, beyond)
	}
}

// P11.1: the kind is first.
func TestCheck(t *testing.T) {
	for _, c := range []struct {
		e    api.Element
		want api.Errno
	}{
		{api.Element{Kind: "salary", Amount: 100_000, Units: 100}, api.OK}, {api.Element{Kind: "car", Amount: -5}, api.OK}, {api.Element{Kind: "hourly", Amount: 1250, Units: 100_000}, api.OK}, {api.Element{Kind: "salary", Amount: top, Units: 100}, api.OK},
		{api.Element{Kind: "bonus", Amount: 5, Units: 100}, api.ErrKind}, {api.Element{Kind: "", Units: 100}, api.ErrKind}, {api.Element{Kind: "Salary", Units: 100}, api.ErrKind}, {api.Element{Kind: "salar", Units: 100}, api.ErrKind}, {api.Element{Kind: "salary ", Units: 100}, api.ErrKind}, {api.Element{Kind: "\xff"}, api.ErrKind}, {api.Element{}, api.ErrKind},
		{api.Element{Kind: "bonus", Amount: top + 1, Units: 100}, api.ErrKind}, {api.Element{Kind: "bonus", Amount: 5, Units: -1}, api.ErrKind}, {api.Element{Kind: "bonus", Amount: top, Units: 101}, api.ErrKind},
		{api.Element{Kind: "salary", Amount: top + 1, Units: 100}, api.ErrOverflow}, {api.Element{Kind: "salary", Amount: -top - 1, Units: -1}, api.ErrOverflow}, {api.Element{Kind: "car", Amount: 5, Units: -1}, api.ErrRange}, {api.Element{Kind: "car", Amount: top, Units: 100_001}, api.ErrRange}, {api.Element{Kind: "hourly", Amount: top, Units: 101}, api.ErrOverflow}, {api.Element{Kind: "hourly", Amount: math.MinInt64, Units: 100}, api.ErrOverflow},
	} {
		if e := element.Check(sample(), c.e); e != c.want {
			t.Errorf("Check(%v): %v, not %v", c.e, e, c.want)
		}
		if e := element.CheckAll(sample(), c.e); e != c.want {
			t.Errorf("CheckAll(%v): %v, not %v", c.e, e, c.want)
		}
	}
	if e := element.Check(api.Table{}, one(5, 100)); e != api.ErrKind {
		t.Errorf("with the zero table: %v", e)
	}
	for _, amount := range edges {
		for _, n := range units {
			_, want := worth(one(amount, n))
			if e := element.Check(sample(), one(amount, n)); e != want {
				t.Errorf("Check(%v): %v, not %v", one(amount, n), e, want)
			}
		}
	}
}

// P11.1: how many they are is first, then the first wrong one of them.
func TestCheckAll(t *testing.T) {
	good := one(1250, 3750)
	wrong := map[api.Errno]api.Element{api.ErrKind: {Kind: "none", Amount: 5, Units: 100}, api.ErrOverflow: one(top+1, 100), api.ErrRange: one(5, -1)}
	check := func(want api.Errno, list ...api.Element) {
		t.Helper()
		if e := element.CheckAll(sample(), list...); e != want {
			t.Errorf("CheckAll(%v): %v, not %v", list, e, want)
		}
	}
	check(api.OK)
	for n := range most + 10 {
		want := api.OK
		if n > most {
			want = api.ErrLong
		}
		check(want, slices.Repeat([]api.Element{good}, n)...)
		check(want, slices.Repeat([]api.Element{{Kind: "salary", Amount: top, Units: 100}}, n)...) // their sum is told elsewhere
	}
	for want, x := range wrong {
		for n := 1; n <= most; n++ {
			for at := range n {
				list := slices.Repeat([]api.Element{good}, n)
				list[at] = x
				check(want, list...)
				for _, other := range wrong {
					if at+1 < n {
						list[n-1] = other
						check(want, list...)
					}
				}
			}
		}
		check(api.ErrLong, slices.Repeat([]api.Element{x}, most+1)...)
		check(api.ErrLong, slices.Repeat([]api.Element{x}, 5000)...)
	}
	if e := element.CheckAll(api.Table{}); e != api.OK {
		t.Errorf("none, with the zero table: %v", e)
	}
}

// P11.2: of any kind and amount.
func TestOf(t *testing.T) {
	for _, kind := range []string{"salary", "", "No name", "\xff"} {
		for _, amount := range edges {
			if got := element.Of(kind, amount); got != (api.Element{Kind: kind, Amount: amount, Units: 100}) {
				t.Errorf("Of(%q, %d): %v", kind, amount, got)
			}
		}
	}
}

// P11.2: units only, if they aren't once; of any numbers and kinds.
func TestText(t *testing.T) {
	for _, c := range []struct {
		e    api.Element
		want string
	}{
		{one(1250, 3750), "hourly 12.50 x37.50"}, {one(1250, 100), "hourly 12.50"}, {one(1250, 0), "hourly 12.50 x0.00"}, {one(0, 1), "hourly 0.00 x0.01"}, {one(-5, 99), "hourly -0.05 x0.99"}, {one(-100, 101), "hourly -1.00 x1.01"}, {one(top, 100_000), "hourly 1000000000.00 x1000.00"},
		{one(1250, -100), "hourly 12.50 x-1.00"}, {one(1250, 100_001), "hourly 12.50 x1000.01"}, {one(math.MaxInt64, math.MinInt64), "hourly 92233720368547758.07 x-92233720368547758.08"},
		{api.Element{}, " 0.00 x0.00"}, {api.Element{Kind: "No name", Amount: 1, Units: 100}, "No name 0.01"}, {api.Element{Kind: "\xff", Units: 200}, "\xff 0.00 x2.00"},
	} {
		if got := element.Text(c.e); got != c.want {
			t.Errorf("Text(%v): %q, not %q", c.e, got, c.want)
		}
	}
	for _, amount := range edges {
		for _, n := range units {
			want := "hourly " + money.Text(amount)
			if n != once {
				want += " x" + money.Text(n)
			}
			if got := element.Text(one(amount, n)); got != want {
				t.Errorf("Text(%v): %q, not %q", one(amount, n), got, want)
			}
		}
	}
}

// P11.2: what is written of an element that may be is read as it was.
func TestTextParsed(t *testing.T) {
	for _, kind := range []string{"hourly", "a", "x", "x1", "abcdefghijklmno0", "a-"} {
		for _, amount := range edges {
			for n := range int64(1203) {
				x := api.Element{Kind: kind, Amount: amount, Units: n * 83 % (maxUnits + 1)}
				if n == 0 {
					x.Units = maxUnits
				}
				if !right(amount) {
					continue
				}
				words, e := word.Cut(element.Text(x))
				if e != api.OK {
					t.Fatalf("%q: %v", element.Text(x), e)
				}
				if got, e := element.Parse(words...); got != x || e != api.OK {
					t.Fatalf("Parse(%q): %v, %v", words, got, e)
				}
			}
		}
	}
}

// parsed: what Parse must tell of words.
func parsed(words []string) (api.Element, api.Errno) {
	switch {
	case len(words) < 2, len(words) > 3, !word.Name(words[0]):
		return api.Element{}, api.ErrForm
	}
	amount, e := money.Parse(words[1])
	if e != api.OK {
		return api.Element{}, e
	}
	x := api.Element{Kind: words[0], Amount: amount, Units: once}
	if len(words) == 2 {
		return x, api.OK
	}
	if words[2] == "" || words[2][0] != 'x' {
		return api.Element{}, api.ErrForm
	}
	if x.Units, e = money.Parse(words[2][1:]); e != api.OK {
		return api.Element{}, e
	}
	if x.Units < 0 || x.Units > maxUnits {
		return api.Element{}, api.ErrRange
	}
	return x, api.OK
}

// parses tells a test's fault, if Parse answers otherwise.
func parses(t *testing.T, want api.Element, wantE api.Errno, words ...string) {
	t.Helper()
	if got, e := element.Parse(words...); got != want || e != wantE {
		t.Errorf("Parse(%q): %v, %v, not %v, %v", words, got, e, want, wantE)
	}
}

// P11.2: with units and without.
func TestParse(t *testing.T) {
	parses(t, one(1250, 3750), api.OK, "hourly", "12.50", "x37.50")
	parses(t, one(1250, 100), api.OK, "hourly", "12.50")
	parses(t, one(1200, 100), api.OK, "hourly", "12", "x1")
	parses(t, one(-1200, 200), api.OK, "hourly", "-12", "x2.00")
	parses(t, one(0, 0), api.OK, "hourly", "0", "x0")
	parses(t, one(0, 0), api.OK, "hourly", "0.00", "x0.00")
	parses(t, one(top, 100_000), api.OK, "hourly", "1000000000.00", "x1000.00")
	parses(t, one(-top, 100_000), api.OK, "hourly", "-1000000000", "x1000")
	parses(t, api.Element{Kind: "x", Amount: 1, Units: 1}, api.OK, "x", "0.01", "x0.01")
	parses(t, one(top, 101), api.OK, "hourly", "1000000000", "x1.01") // what it is worth is Value's to tell
}

// P11.2: what is refused, and what is told first.
func TestParseRefuses(t *testing.T) {
	const over, wrong = "1000000000.01", "12.5"
	none := api.Element{}
	for _, c := range []struct {
		want  api.Errno
		words []string
	}{
		{api.ErrForm, nil}, {api.ErrForm, []string{"hourly"}}, {api.ErrForm, []string{"hourly", "12.50", "x1", "x1"}}, {api.ErrForm, []string{"hourly", "12.50", "x1", ""}}, {api.ErrForm, []string{"hourly", over, "x1001", "x1"}}, {api.ErrForm, []string{"hourly 12.50"}}, {api.ErrForm, []string{"hourly 12.50", "x2"}},
		{api.ErrForm, []string{"", "12.50"}}, {api.ErrForm, []string{"Hourly", "12.50"}}, {api.ErrForm, []string{"1", "12.50"}}, {api.ErrForm, []string{"abcdefghijklmnop0", "12.50"}}, {api.ErrForm, []string{"hour ly", "12.50", "x1"}}, {api.ErrForm, []string{"12.50", "hourly"}},
		{api.ErrForm, []string{"Hourly", over}}, {api.ErrForm, []string{"Hourly", "12.50", "x1001"}}, {api.ErrForm, []string{"", over, "x" + over}},
		{api.ErrForm, []string{"hourly", ""}}, {api.ErrForm, []string{"hourly", wrong}}, {api.ErrForm, []string{"hourly", "-0"}}, {api.ErrForm, []string{"hourly", "x12.50"}}, {api.ErrForm, []string{"hourly", "x1", "12.50"}}, {api.ErrForm, []string{"hourly", "+1"}},
		{api.ErrOverflow, []string{"hourly", over}}, {api.ErrOverflow, []string{"hourly", "-" + over}}, {api.ErrOverflow, []string{"hourly", "99999999999999999999"}}, {api.ErrOverflow, []string{"hourly", over, "1"}}, {api.ErrOverflow, []string{"hourly", over, ""}}, {api.ErrOverflow, []string{"hourly", over, "x" + wrong}}, {api.ErrOverflow, []string{"hourly", over, "x1001"}},
		{api.ErrForm, []string{"hourly", wrong, "x" + over}}, {api.ErrForm, []string{"hourly", wrong, "x1001"}}, {api.ErrForm, []string{"hourly", wrong, "x1"}},
		{api.ErrForm, []string{"hourly", "12.50", ""}}, {api.ErrForm, []string{"hourly", "12.50", "37.50"}}, {api.ErrForm, []string{"hourly", "12.50", "X1"}}, {api.ErrForm, []string{"hourly", "12.50", "*1"}}, {api.ErrForm, []string{"hourly", "12.50", " x1"}}, {api.ErrForm, []string{"hourly", "12.50", "1x"}}, {api.ErrForm, []string{"hourly", "12.50", over}}, {api.ErrForm, []string{"hourly", "12.50", "1001"}},
		{api.ErrForm, []string{"hourly", "12.50", "x"}}, {api.ErrForm, []string{"hourly", "12.50", "xx1"}}, {api.ErrForm, []string{"hourly", "12.50", "x 1"}}, {api.ErrForm, []string{"hourly", "12.50", "x1.5"}}, {api.ErrForm, []string{"hourly", "12.50", "x-0"}}, {api.ErrForm, []string{"hourly", "12.50", "x01"}}, {api.ErrForm, []string{"hourly", "12.50", "x1 "}}, {api.ErrForm, []string{"hourly", "12.50", "x" + strings.Repeat("9", 21)}},
		{api.ErrOverflow, []string{"hourly", "12.50", "x" + over}}, {api.ErrOverflow, []string{"hourly", "12.50", "x-" + over}}, {api.ErrOverflow, []string{"hourly", "12.50", "x" + strings.Repeat("9", 20)}},
		{api.ErrRange, []string{"hourly", "12.50", "x1000.01"}}, {api.ErrRange, []string{"hourly", "12.50", "x1001"}}, {api.ErrRange, []string{"hourly", "12.50", "x-0.01"}}, {api.ErrRange, []string{"hourly", "12.50", "x-1"}}, {api.ErrRange, []string{"hourly", "12.50", "x1000000000"}}, {api.ErrRange, []string{"hourly", "12.50", "x-1000000000.00"}},
	} {
		parses(t, none, c.want, c.words...)
	}
}

// P11.2: all words of some in each place, up to four.
func TestParseAll(t *testing.T) {
	list := []string{"", "a", "hourly", "x", "A", "x1", "x1.00", "x0", "x-1", "x-0", "x1000", "x1000.01", "xx", "X1", "1", "12.50", "-3", "-0", "1.5", "1000000000", "1000000000.01", "x1000000000.01", "\xff", "x\xff"}
	var walk func(words []string)
	walk = func(words []string) {
		want, e := parsed(words)
		parses(t, want, e, words...)
		for i := 0; i < len(list) && len(words) < 4; i++ {
			walk(append(words[:len(words):len(words)], list[i]))
		}
	}
	walk(nil)
}

// sums: what Sums must tell, one kind after the other.
func sums(list []api.Element) ([]element.Sum, api.Errno) {
	var all []element.Sum
	at := map[string]int{}
	for _, x := range list {
		value, e := worth(x)
		if e != api.OK {
			return nil, e
		}
		if _, had := at[x.Kind]; !had {
			at[x.Kind] = len(all)
			all = append(all, element.Sum{Kind: x.Kind})
		}
		s := &all[at[x.Kind]]
		if s.Value += value; !right(s.Value) {
			return nil, api.ErrOverflow
		}
	}
	return all, api.OK
}

// P11.3: kinds in the order in which they come first, whatever they are called and come to; no more than may be on the way.
func TestSums(t *testing.T) {
	of := element.Of
	for _, c := range []struct {
		list []api.Element
		want []element.Sum
		e    api.Errno
	}{
		{nil, nil, api.OK},
		{[]api.Element{one(1250, 3750)}, []element.Sum{{Kind: "hourly", Value: 46_875}}, api.OK},
		{[]api.Element{of("b", 1), of("a", 2), of("b", 3), of("c", 0), of("a", -5), of("b", -4)}, []element.Sum{{Kind: "b"}, {Kind: "a", Value: -3}, {Kind: "c"}}, api.OK},
		{[]api.Element{one(1, 50), one(1, 50), one(-1, 49)}, []element.Sum{{Kind: "hourly", Value: 2}}, api.OK}, // each is rounded
		{[]api.Element{of("", 5), of("\xff", 7), of("", 6)}, []element.Sum{{Kind: "", Value: 11}, {Kind: "\xff", Value: 7}}, api.OK},
		{[]api.Element{of("a", top), of("b", top), of("a", -1), of("a", 1)}, []element.Sum{{Kind: "a", Value: top}, {Kind: "b", Value: top}}, api.OK},
		{[]api.Element{of("a", top), of("a", 1), of("a", -1)}, nil, api.ErrOverflow}, {[]api.Element{of("a", -top), of("b", 5), of("a", -1)}, nil, api.ErrOverflow},
		{[]api.Element{of("a", top+1)}, nil, api.ErrOverflow}, {[]api.Element{of("a", 1), one(5, -1)}, nil, api.ErrRange}, {[]api.Element{one(5, 100_001), of("a", top+1)}, nil, api.ErrRange}, {[]api.Element{of("a", top+1), one(5, -1)}, nil, api.ErrOverflow},
		{[]api.Element{of("a", top), one(5, -1), of("a", 1)}, nil, api.ErrRange}, {[]api.Element{of("a", top), of("a", 1), one(5, -1)}, nil, api.ErrOverflow}, {[]api.Element{one(top, 101), one(5, -1)}, nil, api.ErrOverflow},
	} {
		if got, e := element.Sums(c.list...); !slices.Equal(got, c.want) || e != c.e {
			t.Errorf("Sums(%v): %v, %v, not %v, %v", c.list, got, e, c.want, c.e)
		}
	}
	if got, e := element.Sums(slices.Repeat([]api.Element{of("a", 1), of("b", 2)}, 1000)...); !slices.Equal(got, []element.Sum{{Kind: "a", Value: 1000}, {Kind: "b", Value: 2000}}) || e != api.OK {
		t.Errorf("of more than a period has: %v, %v", got, e)
	}
}

// chance: elements of a few kinds, few of which are wrong.
func chance(r *rand.Rand, most int) []api.Element {
	kinds := []string{"a", "b", "c", "ab", "", "A"}
	amounts := []int64{0, 1, -1, 1, 50, -333, 1250, top / 2, -top / 2, top/2 + 1, top, -top}
	list := make([]api.Element, r.Intn(most+1))
	for i := range list {
		list[i] = api.Element{Kind: kinds[r.Intn(len(kinds))], Amount: amounts[r.Intn(len(amounts))], Units: once}
		switch r.Intn(20) {
		case 0:
			list[i].Units = r.Int63n(300)
		case 1:
			list[i].Amount, list[i].Units = edges[r.Intn(len(edges))], units[r.Intn(len(units))]
		}
	}
	return list
}

// P11.3: against another reckoning.
func TestSumsMany(t *testing.T) {
	r := rand.New(rand.NewSource(113))
	told := map[api.Errno]int{}
	for range 20_000 {
		list := chance(r, 12)
		want, wantE := sums(list)
		got, e := element.Sums(list...)
		if !slices.Equal(got, want) || e != wantE {
			t.Fatalf("Sums(%v): %v, %v, not %v, %v", list, got, e, want, wantE)
		}
		told[e]++
	}
	if len(told) != 3 {
		t.Errorf("not all was told: %v", told)
	}
}

// changed: what Change must tell.
func changed(kind string, amount int64, list []api.Element) []api.Element {
	is := func(x api.Element) bool { return x.Kind == kind }
	at := slices.IndexFunc(list, is)
	if at < 0 {
		at = len(list)
	}
	head := slices.Clone(list[:at])
	if amount != 0 {
		head = append(head, api.Element{Kind: kind, Amount: amount, Units: 100})
	}
	return append(head, slices.DeleteFunc(slices.Clone(list[at:]), is)...)
}

// P11.3: at the place of the first one, at the end, or gone.
func TestChange(t *testing.T) {
	of := element.Of
	a, b, c, d := one(5, 200), of("b", 7), one(-9, 0), of("", 1)
	for _, x := range []struct {
		kind   string
		amount int64
		list   []api.Element
		want   []api.Element
	}{
		{"hourly", 30, []api.Element{a, b, c}, []api.Element{of("hourly", 30), b}}, {"hourly", 30, []api.Element{b, a, d, c, b}, []api.Element{b, of("hourly", 30), d, b}}, {"b", -30, []api.Element{a, c, b}, []api.Element{a, c, of("b", -30)}},
		{"c", 30, []api.Element{a, b, c}, []api.Element{a, b, c, of("c", 30)}}, {"c", 30, nil, []api.Element{of("c", 30)}}, {"c", 0, []api.Element{a, b}, []api.Element{a, b}}, {"c", 0, nil, nil}, {"", -1, []api.Element{a, d, d}, []api.Element{a, of("", -1)}},
		{"hourly", 0, []api.Element{a, b, c}, []api.Element{b}}, {"b", 0, []api.Element{b, b}, nil}, {"hourly", 5, []api.Element{a}, []api.Element{of("hourly", 5)}},
		{"No name", math.MinInt64, []api.Element{b}, []api.Element{b, of("No name", math.MinInt64)}}, {"b", math.MaxInt64, []api.Element{b, a}, []api.Element{of("b", math.MaxInt64), a}}, // any arguments
	} {
		if got := element.Change(x.kind, x.amount, x.list...); !slices.Equal(got, x.want) {
			t.Errorf("Change(%q, %d, %v): %v, not %v", x.kind, x.amount, x.list, got, x.want)
		}
	}
}

// P11.3: all lists of up to six of three kinds, then greater ones, by chance.
func TestChangeAll(t *testing.T) {
	check := func(kind string, amount int64, list []api.Element) {
		t.Helper()
		if got, want := element.Change(kind, amount, list...), changed(kind, amount, list); !slices.Equal(got, want) {
			t.Fatalf("Change(%q, %d, %v): %v, not %v", kind, amount, list, got, want)
		}
	}
	var walk func(list []api.Element)
	walk = func(list []api.Element) {
		for _, amount := range []int64{0, 1, -2, 77} {
			check("a", amount, list)
		}
		for i := 0; i < 3 && len(list) < 6; i++ {
			walk(append(list[:len(list):len(list)], api.Element{Kind: "abc"[i : i+1], Amount: int64(len(list)), Units: int64(i) * 50}))
		}
	}
	walk(nil)
	r := rand.New(rand.NewSource(1131))
	for range 5000 {
		check([]string{"a", "b", "", "x"}[r.Intn(4)], edges[r.Intn(len(edges))], chance(r, 50))
	}
}

// P11.3: each field of each element, in order.
func TestSame(t *testing.T) {
	list := func() []api.Element { return []api.Element{one(5, 200), element.Of("b", 7), one(5, 200), {}} }
	if !element.Same(list(), list()) || !element.Same(nil, nil) || !element.Same(nil, []api.Element{}) || !element.Same([]api.Element{}, nil) {
		t.Error("alike ones aren't the same")
	}
	others := [][]api.Element{nil, {{}}, append(list(), api.Element{})}
	for i := range list() {
		others = append(others, slices.Delete(list(), i, i+1))
		for _, change := range []func(x *api.Element){
			func(x *api.Element) { x.Kind += "s" }, func(x *api.Element) { x.Amount++ }, func(x *api.Element) { x.Amount = -x.Amount - 1 }, func(x *api.Element) { x.Units++ },
		} {
			other := list()
			change(&other[i])
			others = append(others, other)
		}
		if i > 0 {
			other := list()
			other[i-1], other[i] = other[i], other[i-1]
			others = append(others, other)
		}
	}
	for _, other := range others {
		if element.Same(list(), other) || element.Same(other, list()) {
			t.Errorf("%v is the same", other)
		}
	}
	if element.Same([]api.Element{one(200, 100)}, []api.Element{one(100, 200)}) {
		t.Error("what is worth the same is the same")
	}
}

// shares: is a text, or a part of it, where another one is?
func shares(a, b string) bool {
	from, to := uintptr(unsafe.Pointer(unsafe.StringData(a))), uintptr(unsafe.Pointer(unsafe.StringData(b)))
	return a != "" && b != "" && from < to+uintptr(len(b)) && to < from+uintptr(len(a))
}

// P2: lists and tables that are handed in stay as they are, their spare room too.
func TestHandedIn(t *testing.T) {
	room := []api.Element{one(5, 200), element.Of("b", 7), one(6, 300), {Kind: "spare", Amount: 1}, {Kind: "spare", Amount: 2}}
	table := sample()
	table.Kinds = append(table.Kinds, api.Kind{Name: "spare"})[:2]
	words := []string{"hourly", "12.50", "x37.50", "spare"}
	was, kinds, said := slices.Clone(room), slices.Clone(table.Kinds[:3]), slices.Clone(words)
	list := room[:3]
	for _, amount := range []int64{0, 5} {
		for _, kind := range []string{"hourly", "b", "spare"} {
			got := element.Change(kind, amount, list...)
			for i := range got[:cap(got)] {
				got[:cap(got)][i] = api.Element{Kind: "spoilt"}
			}
		}
	}
	sums, _ := element.Sums(list...)
	for i := range sums[:cap(sums)] {
		sums[:cap(sums)][i] = element.Sum{Kind: "spoilt"}
	}
	element.Same(list, room)
	element.CheckAll(table, list...)
	element.Check(table, room[3])
	element.Parse(words[:3]...)
	element.Parse(words[:2]...)
	if !slices.Equal(room, was) || !slices.Equal(table.Kinds[:3], kinds) || !slices.Equal(words, said) {
		t.Errorf("changed or shared: %v, %v, %q", room, table.Kinds[:3], words)
	}
}

// P2: what is answered is new memory, names too.
func TestMemory(t *testing.T) {
	kind := strings.Clone("hourly")
	list := []api.Element{{Kind: kind, Amount: 5, Units: 200}, element.Of("salary", 7), element.Of(kind, 6)}
	text := element.Text(list[0])
	words := strings.Split(text, " ")
	got, again := element.Change(kind, 9, list...), element.Change(kind, 9, list...)
	was := slices.Clone(list)
	told, _ := element.Sums(list...)
	toldAgain, _ := element.Sums(list...)
	read, _ := element.Parse(words...)
	names := []string{kind, list[1].Kind, list[2].Kind, text, element.Text(list[0]), read.Kind}
	for _, x := range slices.Concat(got, again) {
		names = append(names, x.Kind)
	}
	for _, s := range slices.Concat(told, toldAgain) {
		names = append(names, s.Kind)
	}
	for i, a := range names {
		if slices.ContainsFunc(names[i+1:], func(b string) bool { return shares(a, b) }) {
			t.Errorf("%q is shared", a)
		}
	}
	for i := range again[:cap(again)] {
		again[:cap(again)][i] = api.Element{Kind: "spoilt"}
	}
	for i := range toldAgain[:cap(toldAgain)] {
		toldAgain[:cap(toldAgain)][i] = element.Sum{Kind: "spoilt"}
	}
	if !slices.Equal(got, changed(kind, 9, list)) || !slices.Equal(told, []element.Sum{{Kind: "hourly", Value: 16}, {Kind: "salary", Value: 7}}) || !slices.Equal(list, was) {
		t.Errorf("another answer was changed: %v, %v", got, told)
	}
}

// P1, P2: no call panics, whatever it is given; beside an error all is zero; the same calls answer the same.
func TestEnds(t *testing.T) {
	r := rand.New(rand.NewSource(11))
	texts := []string{"", "a", "hourly", "x", "x1", "\xff\xfe", "1", "-1", "x-1", "1000000000.01", strings.Repeat("x", 600), strings.Repeat("9", 600), "x" + strings.Repeat("0", 600)}
	raw := func() []api.Element {
		list := make([]api.Element, r.Intn(40))
		for i := range list {
			list[i] = api.Element{Kind: texts[r.Intn(len(texts))], Amount: edges[r.Intn(len(edges))], Units: units[r.Intn(len(units))]}
		}
		return list
	}
	for range 3000 {
		list, other, table := raw(), raw(), sample()
		if r.Intn(2) == 0 {
			table = api.Table{Kinds: []api.Kind{{Name: "\xff\xfe", Cash: math.MinInt}, {Name: "x"}, {Name: "x", Social: math.MaxInt}}}
		}
		words := make([]string, r.Intn(5))
		for i := range words {
			words[i] = texts[r.Intn(len(texts))]
		}
		told := func() string {
			defer func() {
				if why := recover(); why != nil {
					t.Errorf("%v, %v, %q: %v", list, other, words, why)
				}
			}()
			sums, e := element.Sums(list...)
			read, f := element.Parse(words...)
			if e != api.OK && len(sums) != 0 || f != api.OK && !reflect.DeepEqual(read, api.Element{}) {
				t.Errorf("%v beside %v, %v beside %v", sums, e, read, f)
			}
			all := fmt.Sprint(sums, e, read, f, element.CheckAll(table, list...), element.Same(list, other), element.Change(texts[len(words)], edges[len(list)%len(edges)], list...))
			for _, x := range list {
				value, e := element.Value(x)
				all += fmt.Sprint(element.Check(table, x), value, e, element.Text(x), element.Of(x.Kind, x.Amount))
			}
			return all
		}
		if told() != told() {
			t.Errorf("the same calls answer otherwise: %v, %v, %q", list, other, words)
		}
	}
}
