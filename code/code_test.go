package code_test

import (
	"fmt"
	"math"
	"math/big"
	"math/rand"
	"regexp"
	"strconv"
	"strings"
	"testing"

	"stipend/api"
	"stipend/code"
)

// The document's limits.
const (
	maxScheme = 7
	maxFlat   = 7
	unit      = 1000
	maxNumber = 999999
	top       = 100_000_000_000
	widest    = 1048576
)

// schemes: numbers of schemes, those that there are and wrong ones.
var schemes = []int{math.MinInt, -1, 0, 1, 2, 3, 4, 5, 6, 7, 8, 255, 256, math.MaxInt}

// kinds: likewise.
var kinds = []int{math.MinInt, -1, 0, api.CodeFree, api.CodeExtra, api.CodeFlat, api.CodeNone, 5, 257, math.MaxInt}

// flats: numbers of bands, likewise.
var flats = []int{math.MinInt, -1, 0, 1, 3, 7, 8, 256, math.MaxInt}

// amounts: a code's amounts, likewise.
var amounts = []int64{
	math.MinInt64, math.MinInt64 + 808, -top, -1_000_000, -1000, -999, -1, 0, 1, 10, 100, 999, 1000, 1001, 1100, 1999, 2000, 9000, 10_000, 99_000, 100_000, 1_257_000, 1_257_500, 123_456_000,
	998_999_000, 999_000_000, 999_998_999, 999_999_000, 999_999_001, 999_999_500, 1_000_000_000, 1_000_001_000, 1_257_000_000, 4_294_968_296, 4_294_969_000, top, top + 1000, math.MaxInt64 - 807, math.MaxInt64,
}

// each calls a function with each code of these parts.
func each(call func(c api.Code)) {
	for _, scheme := range schemes {
		for _, kind := range kinds {
			for _, flat := range flats {
				for _, amount := range amounts {
					call(api.Code{Scheme: scheme, Kind: kind, Amount: amount, Flat: flat})
					call(api.Code{Scheme: scheme, Kind: kind, Amount: amount, Flat: flat, Alone: true})
				}
			}
		}
	}
}

// check: what Check must tell of a code.
func check(c api.Code) api.Errno {
	if c.Scheme < 0 || c.Scheme > maxScheme {
		return api.ErrScheme
	}
	right := false
	if number := c.Amount / unit; c.Kind == 1 || c.Kind == 2 {
		right = c.Flat == 0 && number*unit == c.Amount && number >= int64(c.Kind-1) && number <= maxNumber
	}
	if c.Kind == 3 || c.Kind == 4 {
		right = c.Amount == 0 && c.Flat >= 0 && c.Flat <= maxFlat*(4-c.Kind)
	}
	if !right {
		return api.ErrCode
	}
	return api.OK
}

func TestLimits(t *testing.T) {
	if code.MaxScheme != maxScheme || code.MaxFlat != maxFlat || code.Unit != unit || code.MaxNumber != maxNumber {
		t.Error("the limits aren't the document's")
	}
}

// P8.1: which codes may be.
func TestCheck(t *testing.T) {
	for _, c := range []struct {
		c    api.Code
		want api.Errno
	}{
		{api.Code{Kind: api.CodeFree}, api.OK}, {api.Code{Kind: api.CodeFree, Amount: 1_257_000}, api.OK}, {api.Code{Scheme: 7, Kind: api.CodeFree, Amount: 999_999_000, Alone: true}, api.OK},
		{api.Code{Kind: api.CodeExtra, Amount: 1000}, api.OK}, {api.Code{Kind: api.CodeExtra, Amount: 999_999_000}, api.OK}, {api.Code{Kind: api.CodeFlat}, api.OK}, {api.Code{Kind: api.CodeFlat, Flat: 7}, api.OK}, {api.Code{Kind: api.CodeNone, Alone: true}, api.OK},
		{api.Code{}, api.ErrCode}, {api.Code{Kind: 5}, api.ErrCode}, {api.Code{Kind: -1}, api.ErrCode},
		{api.Code{Scheme: -1, Kind: api.CodeNone}, api.ErrScheme}, {api.Code{Scheme: 8, Kind: api.CodeNone}, api.ErrScheme}, {api.Code{Scheme: 8}, api.ErrScheme}, {api.Code{Scheme: -1, Kind: api.CodeExtra}, api.ErrScheme},
		{api.Code{Kind: api.CodeFree, Amount: 999}, api.ErrCode}, {api.Code{Kind: api.CodeFree, Amount: -1000}, api.ErrCode}, {api.Code{Kind: api.CodeFree, Amount: 1_000_000_000}, api.ErrCode}, {api.Code{Kind: api.CodeFree, Amount: 1000, Flat: 1}, api.ErrCode},
		{api.Code{Kind: api.CodeExtra}, api.ErrCode}, {api.Code{Kind: api.CodeExtra, Amount: 1500}, api.ErrCode}, {api.Code{Kind: api.CodeExtra, Amount: -1000}, api.ErrCode}, {api.Code{Kind: api.CodeExtra, Amount: 1000, Flat: 1}, api.ErrCode},
		{api.Code{Kind: api.CodeFlat, Flat: 8}, api.ErrCode}, {api.Code{Kind: api.CodeFlat, Flat: -1}, api.ErrCode}, {api.Code{Kind: api.CodeFlat, Flat: 1, Amount: 1000}, api.ErrCode},
		{api.Code{Kind: api.CodeNone, Amount: 1000}, api.ErrCode}, {api.Code{Kind: api.CodeNone, Flat: 1}, api.ErrCode},
	} {
		if e := code.Check(c.c); e != c.want || check(c.c) != c.want {
			t.Errorf("Check(%v): %v, not %v", c.c, e, c.want)
		}
	}
	each(func(c api.Code) {
		if e := code.Check(c); e != check(c) {
			t.Fatalf("Check(%v): %v, not %v", c, e, check(c))
		}
	})
}

// text: how a code that may be is written.
func text(c api.Code) string {
	s := []string{"", "P", "Q", "R", "S", "T", "U", "V"}[c.Scheme]
	s += []string{fmt.Sprintf("%dL", c.Amount/unit), fmt.Sprintf("K%d", c.Amount/unit), fmt.Sprintf("D%d", c.Flat), "NT"}[c.Kind-1]
	if c.Alone {
		s += "X"
	}
	return s
}

// leads tells a test's fault, if a code isn't written as it must be, or Parse doesn't lead back.
func leads(t *testing.T, c api.Code) {
	t.Helper()
	want := text(c)
	if got := code.Text(c); got != want {
		t.Errorf("Text(%v): %q, not %q", c, got, want)
	}
	if got, e := code.Parse(want); got != c || e != api.OK {
		t.Errorf("Parse(%q): %v, %v, not %v", want, got, e, c)
	}
}

// P8.2: codes as they are written, and nothing of those that may not be.
func TestText(t *testing.T) {
	for want, c := range map[string]api.Code{
		"1257L": {Kind: api.CodeFree, Amount: 1_257_000}, "QK10X": {Scheme: 2, Kind: api.CodeExtra, Amount: 10_000, Alone: true}, "0L": {Kind: api.CodeFree}, "VNTX": {Scheme: 7, Kind: api.CodeNone, Alone: true},
		"D0": {Kind: api.CodeFlat}, "PD7": {Scheme: 1, Kind: api.CodeFlat, Flat: 7}, "NT": {Kind: api.CodeNone}, "TNT": {Scheme: 5, Kind: api.CodeNone}, "R999999LX": {Scheme: 3, Kind: api.CodeFree, Amount: 999_999_000, Alone: true},
		"SK1": {Scheme: 4, Kind: api.CodeExtra, Amount: 1000}, "UD3X": {Scheme: 6, Kind: api.CodeFlat, Flat: 3, Alone: true}, "K999999": {Kind: api.CodeExtra, Amount: 999_999_000},
	} {
		if got := code.Text(c); got != want {
			t.Errorf("Text(%v): %q, not %q", c, got, want)
		}
		if got, e := code.Parse(want); got != c || e != api.OK {
			t.Errorf("Parse(%q): %v, %v, not %v", want, got, e, c)
		}
	}
	each(func(c api.Code) {
		if check(c) == api.OK {
			leads(t, c)
		} else if got := code.Text(c); got != "" {
			t.Fatalf("Text(%v): %q", c, got)
		}
	})
}

// P8.2: what is written is read as it was, of many numbers.
func TestTextParsed(t *testing.T) {
	for n := int64(0); n <= maxNumber; n += 1 + n/300 {
		for _, alone := range []bool{false, true} {
			c := api.Code{Scheme: int(n % 8), Kind: api.CodeFree, Amount: n * unit, Alone: alone}
			leads(t, c)
			c.Kind = api.CodeExtra
			if n > 0 {
				leads(t, c)
			}
		}
	}
}

var form = regexp.MustCompile(`^([P-V]?)(?:(0|[1-9][0-9]{0,5})L|K(0|[1-9][0-9]{0,5})|D(0|[1-9][0-9]{0,5})|(NT))(X?)$`)

// parsed: what Parse must tell of a text.
func parsed(s string) (api.Code, api.Errno) {
	found := form.FindStringSubmatch(s)
	if found == nil {
		return api.Code{}, api.ErrForm
	}
	c := api.Code{Alone: found[6] != ""}
	if found[1] != "" {
		c.Scheme = int(found[1][0]-'P') + 1
	}
	for i, number := range found[2:6] {
		if number != "" {
			c.Kind = i + 1
			n, _ := strconv.Atoi(number)
			if c.Kind == 3 {
				c.Flat = n
			} else {
				c.Amount = int64(n) * unit
			}
		}
	}
	if e := check(c); e != api.OK {
		return api.Code{}, e
	}
	return c, api.OK
}

// sameParse tells a test's fault, if Parse answers otherwise.
func sameParse(t *testing.T, s string) {
	t.Helper()
	want, wantE := parsed(s)
	if got, e := code.Parse(s); got != want || e != wantE {
		t.Errorf("Parse(%q): %v, %v, not %v, %v", s, got, e, want, wantE)
	}
}

// P8.2: texts that tell no code.
func TestParseRefuses(t *testing.T) {
	for s, want := range map[string]api.Errno{
		"": api.ErrForm, "X": api.ErrForm, "P": api.ErrForm, "PX": api.ErrForm, "L": api.ErrForm, "K": api.ErrForm, "D": api.ErrForm, "N": api.ErrForm, "T": api.ErrForm, "LX": api.ErrForm, "PL": api.ErrForm, "KX": api.ErrForm,
		"5": api.ErrForm, "5X": api.ErrForm, "P5": api.ErrForm, "L5": api.ErrForm, "5K": api.ErrForm, "5D": api.ErrForm, "K5L": api.ErrForm, "D5L": api.ErrForm, "5NT": api.ErrForm, "NT5": api.ErrForm, "NTL": api.ErrForm, "KNT": api.ErrForm, "KD5": api.ErrForm,
		"O5L": api.ErrForm, "W5L": api.ErrForm, "PP5L": api.ErrForm, "p5L": api.ErrForm, "5l": api.ErrForm, "5Lx": api.ErrForm, "nt": api.ErrForm, "k5": api.ErrForm, "d5": api.ErrForm, "5LXX": api.ErrForm, "X5L": api.ErrForm, "5XL": api.ErrForm, "5PL": api.ErrForm,
		"00L": api.ErrForm, "05L": api.ErrForm, "K01": api.ErrForm, "K00": api.ErrForm, "D00": api.ErrForm, "D07": api.ErrForm, "D08": api.ErrForm, "1000000L": api.ErrForm, "K1000000": api.ErrForm, "D1000000": api.ErrForm, "0000000L": api.ErrForm, "4294967297L": api.ErrForm, "18446744073709551617L": api.ErrForm,
		"-5L": api.ErrForm, "+5L": api.ErrForm, "K-5": api.ErrForm, "D-1": api.ErrForm, "5.0L": api.ErrForm, " 5L": api.ErrForm, "5L ": api.ErrForm, "5 L": api.ErrForm, "5L\n": api.ErrForm, "1_0L": api.ErrForm, "٥L": api.ErrForm, "\x005L": api.ErrForm,
		"K0": api.ErrCode, "K0X": api.ErrCode, "VK0": api.ErrCode, "D8": api.ErrCode, "D10": api.ErrCode, "PD8X": api.ErrCode, "D256": api.ErrCode, "D999999": api.ErrCode,
	} {
		if got, e := code.Parse(s); got != (api.Code{}) || e != want {
			t.Errorf("Parse(%q): %v, %v, not %v", s, got, e, want)
		}
		sameParse(t, s)
	}
}

// P8.2: all short texts of those bytes on which it depends, and each byte in each place.
func TestParseAll(t *testing.T) {
	const bytes = "PVWLKDNTX0179-"
	var walk func(s string)
	walk = func(s string) {
		sameParse(t, s)
		for i := 0; i < len(bytes) && len(s) < 5; i++ {
			walk(s + bytes[i:i+1])
		}
	}
	walk("")
	for i := range 256 {
		b := string([]byte{byte(i)})
		for _, s := range []string{"P12LX", "K12", "D5", "QNTX", "123456L"} {
			for at := range len(s) + 1 {
				sameParse(t, s[:at]+b+s[at:])
				if at < len(s) {
					sameParse(t, s[:at]+b+s[at+1:])
				}
			}
		}
	}
}

// parts: both sides of parts of the year, those that may be and wrong ones.
var parts = []int{math.MinInt, -1 << 32, -widest, -1, 0, 1, 2, 3, 7, 11, 12, 13, 51, 52, 53, 365, 1000, 1023, 1024, 99_991, widest - 1, widest, widest + 1, 1<<32 + 1, math.MaxInt}

// free: what Free must tell of a code.
func free(c api.Code, n, d int) (int64, api.Errno) {
	if e := check(c); e != api.OK {
		return 0, e
	}
	if d < 1 || d > widest || n < 0 || n > d {
		return 0, api.ErrRange
	}
	x := c.Amount * int64(n) / int64(d) // below 2^63, and never below 0
	if c.Kind == api.CodeExtra {
		x = -x
	}
	return x, api.OK
}

// charge: what Charge must tell of a code.
func charge(c api.Code, taxable int64, n, d int) (int64, api.Errno) {
	x, e := free(c, n, d)
	if e != api.OK {
		return 0, e
	}
	if taxable < -top || taxable > top {
		return 0, api.ErrOverflow
	}
	if c.Kind == api.CodeNone {
		return 0, api.OK
	}
	charged := new(big.Int).Sub(big.NewInt(taxable), big.NewInt(x))
	if charged.CmpAbs(big.NewInt(top)) > 0 {
		return 0, api.ErrOverflow
	}
	return max(charged.Int64(), 0), api.OK
}

// sameFree and sameCharge tell a test's fault, if a call answers otherwise.
func sameFree(t *testing.T, c api.Code, n, d int) {
	t.Helper()
	want, wantE := free(c, n, d)
	if got, e := code.Free(c, n, d); got != want || e != wantE {
		t.Errorf("Free(%v, %d, %d): %d, %v, not %d, %v", c, n, d, got, e, want, wantE)
	}
}

func sameCharge(t *testing.T, c api.Code, taxable int64, n, d int) {
	t.Helper()
	want, wantE := charge(c, taxable, n, d)
	if got, e := code.Charge(c, taxable, n, d); got != want || e != wantE {
		t.Errorf("Charge(%v, %d, %d, %d): %d, %v, not %d, %v", c, taxable, n, d, got, e, want, wantE)
	}
}

// some: codes that may be, and codes that may not.
func some() []api.Code {
	var list []api.Code
	for _, amount := range []int64{1000, 10_000, 1_257_000, 7_001_000, 999_999_000} {
		list = append(list, api.Code{Kind: api.CodeFree, Amount: amount}, api.Code{Scheme: 2, Kind: api.CodeExtra, Amount: amount, Alone: true})
	}
	return append(list,
		api.Code{Kind: api.CodeFree}, api.Code{Kind: api.CodeFlat, Flat: 3}, api.Code{Scheme: 7, Kind: api.CodeNone}, api.Code{Kind: api.CodeNone, Alone: true},
		api.Code{}, api.Code{Scheme: 8}, api.Code{Scheme: -1, Kind: api.CodeNone}, api.Code{Kind: api.CodeExtra}, api.Code{Kind: api.CodeFree, Amount: 1}, api.Code{Kind: api.CodeNone, Flat: 1}, api.Code{Kind: 5, Amount: math.MinInt64},
	)
}

// P8.3: what is free, by parts that may be and by wrong ones.
func TestFree(t *testing.T) {
	for _, c := range []struct {
		text string
		n, d int
		want int64
		e    api.Errno
	}{
		{"1257L", 1, 1, 1_257_000, api.OK}, {"1257L", 1, 12, 104_750, api.OK}, {"1257L", 0, 12, 0, api.OK}, {"1257L", 12, 12, 1_257_000, api.OK}, {"1L", 1, 3, 333, api.OK}, {"1L", 2, 3, 666, api.OK},
		{"QK10X", 1, 1, -10_000, api.OK}, {"K1", 1, 3, -333, api.OK}, {"K1", 2, 3, -666, api.OK}, {"K1", 1, widest, 0, api.OK}, {"K10", 0, 1, 0, api.OK},
		{"D3", 1, 12, 0, api.OK}, {"NT", 1, 12, 0, api.OK}, {"0L", 1, 1, 0, api.OK}, {"999999L", widest, widest, 999_999_000, api.OK}, {"K999999", widest - 1, widest, -999_998_046, api.OK},
		{"1L", 1, 0, 0, api.ErrRange}, {"1L", 0, 0, 0, api.ErrRange}, {"1L", -1, 1, 0, api.ErrRange}, {"1L", 2, 1, 0, api.ErrRange}, {"1L", 1, widest + 1, 0, api.ErrRange}, {"1L", widest + 1, widest + 1, 0, api.ErrRange}, {"1L", -1, -1, 0, api.ErrRange}, {"1L", -2, -1, 0, api.ErrRange},
		{"NT", 2, 1, 0, api.ErrRange}, {"D3", 1, 0, 0, api.ErrRange}, {"0L", 13, 12, 0, api.ErrRange},
	} {
		parsed, _ := code.Parse(c.text)
		if got, e := code.Free(parsed, c.n, c.d); got != c.want || e != c.e {
			t.Errorf("Free of %s, %d of %d: %d, %v, not %d, %v", c.text, c.n, c.d, got, e, c.want, c.e)
		}
	}
	for _, c := range some() {
		for _, n := range parts {
			for _, d := range parts {
				sameFree(t, c, n, d)
			}
		}
	}
	r := rand.New(rand.NewSource(83))
	for range 20_000 {
		d := 1 + r.Intn(widest)
		sameFree(t, api.Code{Kind: 1 + r.Intn(2), Amount: (1 + r.Int63n(maxNumber)) * unit}, r.Intn(d+1), d)
	}
}

// P8.3: what is charged, at the edges of what may be.
func TestCharge(t *testing.T) {
	for _, c := range []struct {
		text    string
		taxable int64
		n, d    int
		want    int64
		e       api.Errno
	}{
		{"1257L", 2_000_000, 1, 1, 743_000, api.OK}, {"1257L", 104_750, 1, 12, 0, api.OK}, {"1257L", 104_751, 1, 12, 1, api.OK}, {"1257L", 5, 1, 1, 0, api.OK}, {"1257L", -5, 1, 1, 0, api.OK}, {"1257L", 77, 0, 1, 77, api.OK},
		{"QK10X", 500, 1, 1, 10_500, api.OK}, {"QK10X", 0, 1, 2, 5000, api.OK}, {"QK10X", -9999, 1, 1, 1, api.OK}, {"QK10X", -10_000, 1, 1, 0, api.OK}, {"QK10X", -10_001, 1, 1, 0, api.OK}, {"K1", 10, 1, 3, 343, api.OK},
		{"D3", 500, 1, 12, 500, api.OK}, {"D3", -500, 1, 12, 0, api.OK}, {"D3", top, 1, 1, top, api.OK}, {"D3", -top, 1, 1, 0, api.OK},
		{"NT", 500, 1, 12, 0, api.OK}, {"NT", top, 1, 1, 0, api.OK}, {"NT", -top, 1, 1, 0, api.OK}, {"NT", top + 1, 1, 1, 0, api.ErrOverflow}, {"NT", -top - 1, 1, 1, 0, api.ErrOverflow},
		{"1L", top, 1, 1, top - 1000, api.OK}, {"1L", top + 1, 1, 1, 0, api.ErrOverflow}, {"1L", top + 1000, 1, 1, 0, api.ErrOverflow}, {"1L", 1000 - top, 1, 1, 0, api.OK}, {"1L", 999 - top, 1, 1, 0, api.ErrOverflow}, {"1L", -top, 1, 1, 0, api.ErrOverflow}, {"1L", -top, 0, 1, 0, api.OK},
		{"K1", top - 1000, 1, 1, top, api.OK}, {"K1", top - 999, 1, 1, 0, api.ErrOverflow}, {"K1", top, 0, 1, top, api.OK}, {"K1", -top, 1, 1, 0, api.OK}, {"K1", -top - 1, 1, 1, 0, api.ErrOverflow}, {"K1", math.MaxInt64, 1, 1, 0, api.ErrOverflow}, {"1L", math.MinInt64, 1, 1, 0, api.ErrOverflow},
		{"1L", top + 1, 2, 1, 0, api.ErrRange}, {"NT", top + 1, 1, 0, 0, api.ErrRange}, {"NT", 5, -1, 1, 0, api.ErrRange}, {"K1", math.MinInt64, 0, 0, 0, api.ErrRange},
	} {
		parsed, _ := code.Parse(c.text)
		if got, e := code.Charge(parsed, c.taxable, c.n, c.d); got != c.want || e != c.e {
			t.Errorf("Charge of %s, %d, %d of %d: %d, %v, not %d, %v", c.text, c.taxable, c.n, c.d, got, e, c.want, c.e)
		}
	}
	for _, c := range some() {
		for _, n := range parts {
			for _, d := range parts {
				x, _ := free(c, n, d)
				for _, taxable := range []int64{math.MinInt64, -top - 1, -top, -1, 0, 1, x - 1, x, x + 1, x + top - 1, x + top, x + top + 1, x - top - 1, x - top, top - 1, top, top + 1, math.MaxInt64} {
					sameCharge(t, c, taxable, n, d)
				}
			}
		}
	}
}

// P8.3: the code's error is told ahead of the part's, and that ahead of the amount's.
func TestOrder(t *testing.T) {
	for _, c := range []api.Code{{}, {Kind: api.CodeExtra}, {Scheme: 8, Kind: api.CodeNone}, {Kind: api.CodeNone, Amount: 1000}} {
		want := check(c)
		if x, e := code.Free(c, 2, 1); x != 0 || e != want {
			t.Errorf("Free of %v: %d, %v, not %v", c, x, e, want)
		}
		if x, e := code.Charge(c, top+1, 2, 1); x != 0 || e != want {
			t.Errorf("Charge of %v: %d, %v, not %v", c, x, e, want)
		}
	}
}

// P1: no call panics, whatever it is given. P2: what it answers hangs on that alone.
func TestEnds(t *testing.T) {
	defer func() {
		if why := recover(); why != nil {
			t.Error(why)
		}
	}()
	each(func(c api.Code) {
		for _, n := range []int{math.MinInt, 0, 1, math.MaxInt} {
			code.Free(c, n, 1)
			code.Free(c, 1, n)
			code.Charge(c, int64(n), 1, n)
			code.Charge(c, int64(n), n, widest)
		}
		if was, again := code.Text(c), code.Text(c); was != again {
			t.Fatalf("%v is written otherwise: %q, %q", c, was, again)
		}
	})
	r := rand.New(rand.NewSource(8))
	for range 20_000 {
		s := make([]byte, r.Intn(12))
		for i := range s {
			s[i] = byte(r.Intn(256))
		}
		sameParse(t, string(s))
	}
	sameParse(t, strings.Repeat("9", 100_000)+"L")
	sameParse(t, "K"+strings.Repeat("9", 100_000))
	sameParse(t, strings.Repeat("X", 100_000))
}
