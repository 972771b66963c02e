package money_test

import (
	"fmt"
	"math"
	"math/big"
	"regexp"
	"slices"
	"strings"
	"testing"

	"stipend/api"
	"stipend/money"
)

const top = 100_000_000_000 // as the document tells it

// edges: numbers at which something may go over.
var edges = []int64{
	math.MinInt64, math.MinInt64 + 1, -1 << 62, -top * 100, -top - 1, -top, -top + 1, -1048576, -101, -100, -99, -64, -3, -2, -1, 0,
	1, 2, 3, 63, 64, 65, 99, 100, 101, 1048575, 1048576, 1048577, 1 << 28, 1 << 32, 1 << 36, top / 64, top/64 + 1, top / 3, top/3 + 1, top / 2, top/2 + 1,
	top - 1, top, top + 1, top * 100, 1 << 61, 1 << 62, math.MaxInt64 - 1, math.MaxInt64,
}

// may: what a number comes to, if it may be an amount.
func may(x *big.Int) (int64, api.Errno) {
	if x.CmpAbs(big.NewInt(top)) > 0 {
		return 0, api.ErrOverflow
	}
	return x.Int64(), api.OK
}

func right(x int64) bool { return x >= -top && x <= top }

// same tells a test's fault, if a call answered otherwise.
func same(t *testing.T, call string, got int64, e api.Errno, want int64, wantE api.Errno) {
	t.Helper()
	if got != want || e != wantE {
		t.Errorf("%s: %d, %v, not %d, %v", call, got, e, want, wantE)
	}
}

func TestLimits(t *testing.T) {
	if money.Max != 100000000000 || money.Coin != 100 || money.Most != 64 {
		t.Error("the limits aren't the document's")
	}
}

// P1.1: which amounts may be.
func TestRight(t *testing.T) {
	for _, x := range edges {
		if money.Right(x) != right(x) {
			t.Errorf("Right(%d) is %v", x, !right(x))
		}
	}
	for _, c := range []struct {
		list []int64
		want bool
	}{
		{nil, true}, {[]int64{0, top, -top, 1}, true},
		{[]int64{top + 1, 0, 0}, false}, {[]int64{0, -top - 1, 0}, false}, {[]int64{0, 0, top + 1}, false}, {[]int64{top + 1, -top - 1}, false},
	} {
		if money.Right(c.list...) != c.want {
			t.Errorf("Right(%v) is %v", c.list, !c.want)
		}
	}
}

// P1.1: Add and Sub, each side and what comes of it.
func TestAddSub(t *testing.T) {
	each := func(name string, call func(a, b int64) (int64, api.Errno), do func(z, x, y *big.Int) *big.Int) {
		for _, a := range edges {
			for _, b := range edges {
				want, wantE := may(do(new(big.Int), big.NewInt(a), big.NewInt(b)))
				if !right(a) || !right(b) {
					want, wantE = 0, api.ErrOverflow
				}
				got, e := call(a, b)
				same(t, fmt.Sprintf("%s(%d, %d)", name, a, b), got, e, want, wantE)
			}
		}
	}
	each("Add", money.Add, (*big.Int).Add)
	each("Sub", money.Sub, (*big.Int).Sub)
	got, e := money.Sub(250, 375)
	same(t, "2.50 less 3.75", got, e, -125, api.OK)
}

// P1.1: Sum goes one by one from 0 on, so each sum on the way must be one that may be.
func TestSum(t *testing.T) {
	for _, c := range []struct {
		list []int64
		want int64
		e    api.Errno
	}{
		{nil, 0, api.OK}, {[]int64{5}, 5, api.OK}, {[]int64{1, 2, 3, -10}, -4, api.OK},
		{[]int64{top, -top, top}, top, api.OK}, {[]int64{top, -1, 1}, top, api.OK}, {[]int64{-top, 0}, -top, api.OK},
		{[]int64{top, 1, -1}, 0, api.ErrOverflow}, {[]int64{-top, -1, 1}, 0, api.ErrOverflow}, {[]int64{top, top, -top}, 0, api.ErrOverflow},
		{[]int64{top + 1}, 0, api.ErrOverflow}, {[]int64{top + 1, -1}, 0, api.ErrOverflow}, {[]int64{-5, top + 1}, 0, api.ErrOverflow}, {[]int64{1, 2, -top - 1}, 0, api.ErrOverflow},
		{[]int64{math.MinInt64, math.MinInt64}, 0, api.ErrOverflow}, {[]int64{1, math.MaxInt64, math.MaxInt64, 2}, 0, api.ErrOverflow},
	} {
		got, e := money.Sum(c.list...)
		same(t, fmt.Sprintf("Sum(%v)", c.list), got, e, c.want, c.e)
	}
}

// P1.1: of any numbers, also those that may not be amounts.
func TestLeastGreatest(t *testing.T) {
	for _, a := range edges {
		for _, b := range edges {
			if money.Least(a, b) != min(a, b) || money.Greatest(a, b) != max(a, b) {
				t.Errorf("of %d and %d: %d and %d", a, b, money.Least(a, b), money.Greatest(a, b))
			}
		}
	}
}

// P1.2: a product that wraps round to one that may be is refused, too.
func TestTimes(t *testing.T) {
	for _, x := range edges {
		for _, n := range edges {
			want, wantE := may(new(big.Int).Mul(big.NewInt(x), big.NewInt(n)))
			if !right(x) {
				want, wantE = 0, api.ErrOverflow
			}
			got, e := money.Times(x, n)
			same(t, fmt.Sprintf("Times(%d, %d)", x, n), got, e, want, wantE)
		}
	}
	got, e := money.Times(-30, 4)
	same(t, "Times(-30, 4)", got, e, -120, api.OK)
	got, e = money.Times(0, math.MinInt64)
	same(t, "none, so often", got, e, 0, api.OK)
	got, e = money.Times(top+1, 0)
	same(t, "too much, never", got, e, 0, api.ErrOverflow)
}

// P1.2
func TestAbs(t *testing.T) {
	for _, x := range edges {
		want := new(big.Int).Abs(big.NewInt(x)).Uint64()
		if got := money.Abs(x); got != want {
			t.Errorf("Abs(%d): %d, not %d", x, got, want)
		}
	}
}

// P1.3: Text is of any number.
func TestText(t *testing.T) {
	for x, want := range map[int64]string{
		0: "0.00", 1: "0.01", -1: "-0.01", 9: "0.09", 10: "0.10", 99: "0.99", 100: "1.00", -100: "-1.00", 105: "1.05", -125: "-1.25", 123456: "1234.56",
		top: "1000000000.00", -top: "-1000000000.00", top + 1: "1000000000.01",
		math.MaxInt64: "92233720368547758.07", math.MinInt64: "-92233720368547758.08", math.MinInt64 + 1: "-92233720368547758.07",
	} {
		if got := money.Text(x); got != want {
			t.Errorf("Text(%d): %q, not %q", x, got, want)
		}
	}
}

// P1.3: what is written is read as it was.
func TestTextParsed(t *testing.T) {
	list := slices.Clone(edges)
	for x := int64(-2345); x <= 2345; x++ {
		list = append(list, x, x*9_999_991)
	}
	for _, x := range list {
		want, wantE := may(big.NewInt(x))
		got, e := money.Parse(money.Text(x))
		same(t, "Parse("+money.Text(x)+")", got, e, want, wantE)
	}
}

var form = regexp.MustCompile(`^-?(0|[1-9][0-9]*)(\.[0-9]{2})?$`)

// parsed: what Parse must tell of a text.
func parsed(s string) (int64, api.Errno) {
	nought := strings.Trim(s, "0.") == "-"
	if !form.MatchString(s) || len(strings.TrimPrefix(s, "-")) > 20 || nought {
		return 0, api.ErrForm
	}
	whole, least, pointed := strings.Cut(s, ".")
	if !pointed {
		least = "00"
	}
	x, _ := new(big.Int).SetString(whole+least, 10)
	return may(x)
}

// P1.3: all texts of up to six of some bytes.
func TestParseAll(t *testing.T) {
	const bytes = "-.0195 +"
	var walk func(s string)
	walk = func(s string) {
		got, e := money.Parse(s)
		if want, wantE := parsed(s); got != want || e != wantE {
			t.Fatalf("Parse(%q): %d, %v, not %d, %v", s, got, e, want, wantE)
		}
		for i := 0; i < len(bytes) && len(s) < 6; i++ {
			walk(s + bytes[i:i+1])
		}
	}
	walk("")
}

// P1.3: long texts, great amounts, and other bytes.
func TestParse(t *testing.T) {
	for s, want := range map[string]int64{"12": 1200, "0.07": 7, "-3.00": -300, "0": 0, "0.00": 0, "-0.01": -1, "1000000000": top, "-1000000000.00": -top, "999999999.99": top - 1} {
		got, e := money.Parse(s)
		same(t, "Parse("+s+")", got, e, want, api.OK)
	}
	for _, s := range []string{
		"1000000000.01", "-1000000000.01", "1000000001", "10000000000", "-10000000000", "100000000000", "100000000001",
		"99999999999999999.99", "-99999999999999999.99", "92233720368547758.08", "12345678901234567890", "99999999999999999999", "-99999999999999999999",
		"9223372036854775808", "-9223372036854775809", "18446744073709551616", "18446744073709551617", "184467440737095517", "36893488147419103232", // these, or a hundred times them, wrap round
	} {
		got, e := money.Parse(s)
		same(t, "Parse("+s+")", got, e, 0, api.ErrOverflow)
	}
	for _, s := range []string{
		"", "-", ".", "-.", "-0", "-0.00", "--1", "+1", "00", "01", "-01", "00.00", "01.00", "1.", "1.5", "1.500", "1..50", "1.50.", "1.5.0", ".50", "-.50", "1,50", "1.-5", "1-", "0x1", "1e2", "1_0",
		" 1", "1 ", "1\n", "1\x00", "1.0\x00", "\xff", "1.\xff0", "1.5\xb0", "/", ":", "1.0/", "1.0:", "１", "١", "1.٠",
		"123456789012345678901", "-123456789012345678901", "184467440737095516.16", "100000000000000000.001", "123456789012345678.90", "0000000000000000000000", strings.Repeat("9", 1000), strings.Repeat("0", 1000) + ".00",
	} {
		got, e := money.Parse(s)
		same(t, fmt.Sprintf("Parse(%q)", s), got, e, 0, api.ErrForm)
	}
}

// spread: the parts by the document's words, one step after the other.
func spread(x int64, weights []int64) []int64 {
	all, amount := new(big.Int), new(big.Int).Abs(big.NewInt(x))
	for _, w := range weights {
		all.Add(all, big.NewInt(w))
	}
	left := amount.Int64()
	parts, rests := make([]int64, len(weights)), make([]*big.Int, len(weights))
	for i, w := range weights {
		own := new(big.Int).Mul(amount, big.NewInt(w))
		rests[i] = new(big.Int)
		own.QuoRem(own, all, rests[i])
		parts[i] = own.Int64()
		left -= parts[i]
	}
	for ; left > 0; left-- {
		most := 0
		for i, r := range rests {
			if r.Cmp(rests[most]) > 0 {
				most = i
			}
		}
		parts[most]++
		rests[most] = big.NewInt(-1)
	}
	for i := range parts {
		if x < 0 {
			parts[i] = -parts[i]
		}
	}
	return parts
}

func checkSpread(t *testing.T, x int64, weights ...int64) {
	t.Helper()
	was := slices.Clone(weights)
	got, e := money.Spread(x, weights...)
	if want := spread(x, was); e != api.OK || !slices.Equal(got, want) {
		t.Errorf("Spread(%d, %v): %v, %v, not %v", x, was, got, e, want)
	}
	if !slices.Equal(weights, was) {
		t.Errorf("Spread(%d, %v) changed the weights to %v", x, was, weights)
	}
}

// P1.4
func TestSpread(t *testing.T) {
	for _, c := range []struct {
		x       int64
		weights []int64
		want    []int64
	}{
		{100, []int64{1, 1, 1}, []int64{34, 33, 33}}, {-100, []int64{1, 1, 1}, []int64{-34, -33, -33}}, {101, []int64{1, 1, 1}, []int64{34, 34, 33}},
		{10, []int64{1, 2, 0, 4}, []int64{1, 3, 0, 6}}, {1, []int64{1, 2}, []int64{0, 1}}, {-1, []int64{1, 2}, []int64{0, -1}}, {1, []int64{0, 1, 1}, []int64{0, 1, 0}},
		{0, []int64{5, 3}, []int64{0, 0}}, {7, []int64{3}, []int64{7}}, {top, []int64{1048576}, []int64{top}}, {-top, []int64{0, 1048576, 0}, []int64{0, -top, 0}},
	} {
		if got, e := money.Spread(c.x, c.weights...); e != api.OK || !slices.Equal(got, c.want) {
			t.Errorf("Spread(%d, %v): %v, %v, not %v", c.x, c.weights, got, e, c.want)
		}
	}
	for n := range int64(625) {
		weights := []int64{n % 5, n / 5 % 5, n / 25 % 5, n / 125}
		for x := int64(-13); x <= 13 && n > 0; x++ {
			checkSpread(t, x, weights...)
		}
	}
	for count := 1; count <= 64; count++ {
		alike, mixed := make([]int64, count), make([]int64, count)
		for i := range alike {
			alike[i] = 1048576
			mixed[i] = int64(i*i*7919) % 1048577
		}
		mixed[0] = 1048576
		for _, x := range []int64{top, -top, top - 1, 1, -1, 63, -65, 12345678901} {
			checkSpread(t, x, alike...)
			checkSpread(t, x, mixed...)
		}
	}
}

// P1.4: which weights are refused, and what is told first.
func TestSpreadRefuses(t *testing.T) {
	many := slices.Repeat([]int64{1}, 65)
	for _, c := range []struct {
		x       int64
		weights []int64
		want    api.Errno
	}{
		{top + 1, []int64{1}, api.ErrOverflow}, {-top - 1, []int64{1}, api.ErrOverflow}, {math.MinInt64, []int64{1}, api.ErrOverflow},
		{top + 1, nil, api.ErrOverflow}, {top + 1, many, api.ErrOverflow}, {top + 1, []int64{-1}, api.ErrOverflow},
		{5, nil, api.ErrLong}, {5, many, api.ErrLong}, {5, make([]int64, 65), api.ErrLong}, {5, slices.Repeat([]int64{-1}, 65), api.ErrLong},
		{5, []int64{0}, api.ErrRange}, {5, make([]int64, 64), api.ErrRange}, {0, []int64{0, 0}, api.ErrRange},
		{5, []int64{-1}, api.ErrRange}, {5, []int64{3, -1}, api.ErrRange}, {5, []int64{1, -1}, api.ErrRange}, {5, []int64{2, -1, 2}, api.ErrRange},
		{5, []int64{1048577}, api.ErrRange}, {5, []int64{1, 1, 1048577}, api.ErrRange}, {5, []int64{math.MinInt64, math.MinInt64, 1}, api.ErrRange}, {5, []int64{math.MaxInt64, 2}, api.ErrRange},
	} {
		if got, e := money.Spread(c.x, c.weights...); e != c.want || len(got) != 0 {
			t.Errorf("Spread(%d, %v): %v, %v, not %v", c.x, c.weights, got, e, c.want)
		}
	}
}

// quantum: what Quantum must tell.
func quantum(x, unit int64, up bool) (int64, api.Errno) {
	if !right(x) || !right(unit) {
		return 0, api.ErrOverflow
	}
	if unit <= 0 {
		return 0, api.ErrRange
	}
	q, rest := new(big.Int).DivMod(big.NewInt(x), big.NewInt(unit), new(big.Int))
	if up && rest.Sign() > 0 {
		q.Add(q, big.NewInt(1))
	}
	return may(q.Mul(q, big.NewInt(unit)))
}

// P1.5: Quantum.
func TestQuantum(t *testing.T) {
	check := func(x, unit int64) {
		for _, up := range []bool{false, true} {
			want, wantE := quantum(x, unit, up)
			got, e := money.Quantum(x, unit, up)
			same(t, fmt.Sprintf("Quantum(%d, %d, %v)", x, unit, up), got, e, want, wantE)
		}
	}
	for _, x := range edges {
		for _, unit := range edges {
			check(x, unit)
		}
	}
	for x := int64(-30); x <= 30; x++ {
		for unit := int64(-2); unit <= 12; unit++ {
			check(x, unit)
		}
	}
	for _, c := range []struct {
		x, unit int64
		up      bool
		want    int64
		e       api.Errno
	}{
		{-125, 100, false, -200, api.OK}, {-125, 100, true, -100, api.OK}, {101, 100, true, 200, api.OK}, {101, 100, false, 100, api.OK}, {200, 100, true, 200, api.OK}, {-200, 100, false, -200, api.OK},
		{top, 3, true, 0, api.ErrOverflow}, {-top, 3, false, 0, api.ErrOverflow}, {top, 3, false, top - 1, api.OK}, {-top, 3, true, -top + 1, api.OK}, {1, top, true, top, api.OK}, {-1, top, false, -top, api.OK},
		{5, 0, true, 0, api.ErrRange}, {5, -5, false, 0, api.ErrRange}, {top + 1, 0, true, 0, api.ErrOverflow}, {5, -top - 1, true, 0, api.ErrOverflow}, {5, top + 1, false, 0, api.ErrOverflow},
	} {
		got, e := money.Quantum(c.x, c.unit, c.up)
		same(t, fmt.Sprintf("Quantum(%d, %d, %v)", c.x, c.unit, c.up), got, e, c.want, c.e)
	}
}

// P1.5: Parts.
func TestParts(t *testing.T) {
	for _, c := range []struct {
		x, each int64
		want    []int64
	}{
		{250, 100, []int64{100, 100, 50}}, {200, 100, []int64{100, 100}}, {99, 100, []int64{99}}, {100, 100, []int64{100}}, {101, 100, []int64{100, 1}}, {0, 100, nil}, {0, 1, nil}, {1, 1, []int64{1}}, {3, 1, []int64{1, 1, 1}},
		{top, top, []int64{top}}, {1, top, []int64{1}}, {top, top - 1, []int64{top - 1, 1}}, {64, 1, slices.Repeat([]int64{1}, 64)}, {640, 10, slices.Repeat([]int64{10}, 64)},
		{639, 10, append(slices.Repeat([]int64{10}, 63), 9)}, {631, 10, append(slices.Repeat([]int64{10}, 63), 1)}, {top, top / 64, slices.Repeat([]int64{top / 64}, 64)},
	} {
		if got, e := money.Parts(c.x, c.each); e != api.OK || !slices.Equal(got, c.want) {
			t.Errorf("Parts(%d, %d): %v, %v, not %v", c.x, c.each, got, e, c.want)
		}
	}
	for _, c := range []struct {
		x, each int64
		want    api.Errno
	}{
		{top + 1, 1, api.ErrOverflow}, {-top - 1, 1, api.ErrOverflow}, {1, top + 1, api.ErrOverflow}, {1, -top - 1, api.ErrOverflow}, {top + 1, 0, api.ErrOverflow}, {-1, top + 1, api.ErrOverflow},
		{-1, 1, api.ErrRange}, {-top, top, api.ErrRange}, {5, 0, api.ErrRange}, {5, -1, api.ErrRange}, {0, 0, api.ErrRange}, {0, -1, api.ErrRange}, {top, 0, api.ErrRange}, {-65, 1, api.ErrRange},
		{65, 1, api.ErrLong}, {641, 10, api.ErrLong}, {650, 10, api.ErrLong}, {top, 1, api.ErrLong}, {top, top/64 - 1, api.ErrLong},
	} {
		if got, e := money.Parts(c.x, c.each); e != c.want || len(got) != 0 {
			t.Errorf("Parts(%d, %d): %v, %v, not %v", c.x, c.each, got, e, c.want)
		}
	}
}

// P1: no arguments make a call panic. Rule 2: beside an error nothing is told.
func TestAnyArguments(t *testing.T) {
	none := func(call string, x int64, e api.Errno) {
		if e != api.OK && x != 0 {
			t.Errorf("%s: %d beside %v", call, x, e)
		}
	}
	nothing := func(call string, l []int64, e api.Errno) {
		if e != api.OK && len(l) != 0 {
			t.Errorf("%s: %v beside %v", call, l, e)
		}
	}
	for _, a := range edges {
		for _, b := range edges {
			l, e := money.Parts(a, b)
			nothing("Parts", l, e)
			for _, c := range edges {
				x, e := money.Sum(a, b, c)
				none("Sum", x, e)
				l, e := money.Spread(a, b, c)
				nothing("Spread", l, e)
			}
		}
	}
	for n := range 1 << 16 {
		x, e := money.Parse(string([]byte{byte(n), byte(n >> 8)}))
		none("Parse", x, e)
	}
}

// P2 (rule 4): what is handed in, its spare room too, stays, and each answer has memory of its own.
func TestOwnMemory(t *testing.T) {
	room := []int64{3, 1, 2, 77, 88}
	weights := room[:3]
	a, _ := money.Spread(100, weights...)
	money.Sum(weights...)
	money.Right(weights...)
	if !slices.Equal(room, []int64{3, 1, 2, 77, 88}) {
		t.Errorf("arguments changed: %v", room)
	}
	b, _ := money.Spread(100, weights...)
	full := a[:cap(a)]
	for i := range full {
		full[i] = -5
	}
	if !slices.Equal(b, []int64{50, 17, 33}) || !slices.Equal(room, []int64{3, 1, 2, 77, 88}) {
		t.Errorf("a changed answer is seen elsewhere: %v, %v", b, room)
	}
	p, _ := money.Parts(250, 100)
	q, _ := money.Parts(250, 100)
	full = p[:cap(p)]
	for i := range full {
		full[i] = -5
	}
	if r, _ := money.Parts(250, 100); !slices.Equal(q, []int64{100, 100, 50}) || !slices.Equal(r, q) {
		t.Errorf("a changed answer is seen elsewhere: %v, %v", q, r)
	}
}
