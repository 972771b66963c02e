package tax_test

import (
	"fmt"
	"math"
	"math/big"
	"math/rand"
	"slices"
	"testing"

	"stipend/api"
	"stipend/code"
	"stipend/date"
	"stipend/frac"
	"stipend/period"
	"stipend/table"
	"stipend/tax"
)

const (
	top  = 100_000_000_000 // as the document tells them
	full = 10_000
	wide = 1_048_576
)

// edges: numbers at which something may go over.
var edges = []int64{math.MinInt64, math.MinInt64 + 1, -top * 2, -top - 1, -top, -top + 1, -1000, -1, 0, 1, 999, 1000, 1001, top - 1, top, top + 1, top * 2, math.MaxInt64 - 1, math.MaxInt64}

// sample: a table that may be: a fifth of all; the same above 120.00 a year; and bands of a few coins, of which one is free.
func sample() api.Table {
	return api.Table{Limit: 5000, Round: api.Down, Schemes: [][]api.Band{
		{{Rate: 2000}},
		{{}, {From: 12_000, Rate: 2000}, {From: 36_000, Rate: 4000}},
		{{Rate: 1000}, {From: 5, Rate: 2500}, {From: 11}, {From: 12, Rate: 10_000}},
	}, Kinds: []api.Kind{{Name: "salary", Cash: 1, Taxable: 1, Social: 1}}}
}

// coded: the code of a text that is one.
func coded(t *testing.T, text string) api.Code {
	t.Helper()
	c, e := code.Parse(text)
	if e != api.OK {
		t.Fatalf("%s is no code: %v", text, e)
	}
	return c
}

// begun: a tax year.
func begun(t *testing.T, freq int, text string) *period.Year {
	t.Helper()
	start, e := date.Parse(text)
	if e != api.OK {
		t.Fatalf("%s is no day: %v", text, e)
	}
	y, e := period.New(freq, start)
	if e != api.OK {
		t.Fatalf("no year begins on %s: %v", text, e)
	}
	return y
}

// tells tells a test's fault, if a call answered otherwise.
func tells[T comparable](t *testing.T, call string, got T, e api.Errno, want T, wantE api.Errno) {
	t.Helper()
	if got != want || e != wantE {
		t.Errorf("%s: %v, %v, not %v, %v", call, got, e, want, wantE)
	}
}

// tellsAll: likewise, of lists.
func tellsAll[T comparable](t *testing.T, call string, got []T, e api.Errno, want []T, wantE api.Errno) {
	t.Helper()
	if !slices.Equal(got, want) || e != wantE {
		t.Errorf("%s: %v, %v, not %v, %v", call, got, e, want, wantE)
	}
}

// P13.1: each kind of code, of the whole year and of parts of it, and the document's example.
func TestExact(t *testing.T) {
	for _, c := range []struct {
		code    string
		taxable int64
		n, d    int
		want    frac.Exact
	}{
		{"12L", 5000, 1, 12, 800 * full}, // the document's example
		{"0L", 5000, 1, 12, 1000 * full}, {"12L", 1000, 1, 12, 0}, {"12L", 1001, 1, 12, 2000}, {"12L", 999, 1, 12, 0}, {"12L", 12_000, 12, 12, 0}, {"12L", 12_003, 1, 1, 3 * 2000}, {"12L", 7, 0, 12, 7 * 2000}, {"1L", 333, 1, 3, 0}, {"1L", 334, 1, 3, 2000}, {"12L", -5, 1, 12, 0}, {"12L", -top + 1000, 1, 12, 0},
		{"P0L", 12_000, 1, 1, 0}, {"P0L", 12_001, 1, 1, 2000}, {"P0L", 36_000, 1, 1, 4800 * full}, {"P0L", 36_001, 1, 1, 4800*full + 4000}, {"P0L", 1000, 1, 12, 0}, {"P0L", 3000, 1, 12, 400 * full}, {"P0L", 3001, 1, 12, 400*full + 4000}, {"P0L", 3001, 2, 12, 1001 * 2000}, {"P12L", 4001, 1, 12, 400*full + 4000}, {"P0L", 9, 0, 1, 9 * 4000}, // nothing is behind the last band's beginning then
		{"K12", 5000, 1, 12, 1200 * full}, {"K12", 0, 1, 12, 200 * full}, {"K12", -999, 1, 12, 2000}, {"K12", -1000, 1, 12, 0}, {"K12", -1001, 1, 12, 0}, {"PK12", 2001, 1, 12, 400*full + 4000}, {"K1", 0, 1, 3, 333 * 2000}, {"K1", 0, 0, 3, 0},
		{"D0", 5000, 1, 12, 1000 * full}, {"PD0", 99_999, 1, 12, 0}, {"PD1", 1, 1, 12, 2000}, {"PD1", 99_999, 1, 12, 99_999 * 2000}, {"PD2", 5, 1, 12, 5 * 4000}, {"PD2", 5, 0, 1, 5 * 4000}, {"PD2", 0, 1, 12, 0}, {"PD2", -5, 1, 12, 0}, {"QD3", top, 1, 1, top * full},
		{"NT", 5000, 1, 12, 0}, {"NT", top, 1, 1, 0}, {"NT", -top, 0, 1, 0}, {"QNT", 12, 1, 1, 0},
		{"Q0L", 5, 1, 1, 5 * 1000}, {"Q0L", 11, 1, 1, 5*1000 + 6*2500}, {"Q0L", 12, 1, 1, 5*1000 + 6*2500}, {"Q0L", 14, 1, 1, 5*1000 + 6*2500 + 2*full}, {"Q0L", 6, 1, 2, 2*1000 + 3*2500}, {"Q0L", 7, 1, 2, 2*1000 + 3*2500 + full}, {"Q0L", 3, 1, 12, 2 * full}, {"Q0LX", 3, 1, 12, 2 * full}, // of bands that begin at one coin then the last one counts
		{"0L", top, 1, 1, top * 2000}, {"999999L", top, 1, 1, (top - 999_999_000) * 2000}, {"K999999", top - 999_999_000, 1, 1, top * 2000}, {"0L", 5000, wide, wide, 1000 * full}, {"1L", 5000, 1, wide, 1000 * full},
	} {
		got, e := tax.Exact(sample(), coded(t, c.code), c.taxable, c.n, c.d)
		tells(t, fmt.Sprintf("Exact(%s, %d, %d, %d)", c.code, c.taxable, c.n, c.d), got, e, c.want, api.OK)
	}
}

// wrong: calls that are refused: what is wrong first is told, first of the code, then of the part of the year, then of the amount.
var wrong = []struct {
	c       api.Code
	taxable int64
	n, d    int
	want    api.Errno
}{
	{api.Code{Scheme: -1, Kind: 9}, top + 1, 2, 1, api.ErrScheme}, {api.Code{Scheme: 8, Kind: 1}, 5, 1, 1, api.ErrScheme}, {api.Code{Scheme: 3, Kind: 1}, 5, 1, 1, api.ErrScheme}, {api.Code{Scheme: 7, Kind: 4}, top + 1, 2, 1, api.ErrScheme}, // the table has three
	{api.Code{}, top + 1, 2, 1, api.ErrCode}, {api.Code{Kind: 5}, 5, 1, 1, api.ErrCode}, {api.Code{Kind: 1, Amount: 1}, 5, 1, 1, api.ErrCode}, {api.Code{Kind: 1, Amount: -1000}, 5, 1, 1, api.ErrCode}, {api.Code{Kind: 1, Amount: 1_000_000_000}, 5, 1, 1, api.ErrCode}, {api.Code{Kind: 1, Flat: 1}, 5, 1, 1, api.ErrCode}, {api.Code{Kind: 2}, 5, 1, 1, api.ErrCode}, {api.Code{Kind: 3, Amount: 1000}, 5, 1, 1, api.ErrCode}, {api.Code{Kind: 3, Flat: -1}, 5, 1, 1, api.ErrCode}, {api.Code{Kind: 3, Flat: 8}, 5, 1, 1, api.ErrCode}, {api.Code{Kind: 4, Amount: 1000}, 5, 1, 1, api.ErrCode},
	{api.Code{Kind: 3, Flat: 1}, top + 1, 2, 1, api.ErrCode}, {api.Code{Scheme: 1, Kind: 3, Flat: 3}, 5, 1, 1, api.ErrCode}, {api.Code{Scheme: 2, Kind: 3, Flat: 4}, 5, 1, 1, api.ErrCode}, // the scheme hasn't that band
	{api.Code{Kind: 1}, top + 1, 2, 1, api.ErrRange}, {api.Code{Kind: 1}, 5, -1, 1, api.ErrRange}, {api.Code{Kind: 1}, 5, 0, 0, api.ErrRange}, {api.Code{Kind: 2, Amount: 1000}, 5, -1, -1, api.ErrRange}, {api.Code{Kind: 1}, 5, 1, wide + 1, api.ErrRange}, {api.Code{Kind: 3}, 5, 2, 1, api.ErrRange}, {api.Code{Kind: 4}, 5, 2, 1, api.ErrRange}, {api.Code{Kind: 4}, 5, 1, 0, api.ErrRange}, {api.Code{Kind: 1}, 5, math.MinInt, math.MaxInt, api.ErrRange}, {api.Code{Kind: 3}, 5, 0, math.MinInt, api.ErrRange}, {api.Code{Kind: 1, Alone: true}, 5, math.MaxInt, math.MaxInt, api.ErrRange},
	{api.Code{Kind: 1}, top + 1, 1, 1, api.ErrOverflow}, {api.Code{Kind: 1}, -top - 1, 1, 1, api.ErrOverflow}, {api.Code{Kind: 3}, top + 1, 1, 1, api.ErrOverflow}, {api.Code{Kind: 4}, top + 1, 1, 1, api.ErrOverflow}, {api.Code{Kind: 4}, math.MinInt64, 1, 1, api.ErrOverflow}, {api.Code{Kind: 3}, math.MaxInt64, 1, 1, api.ErrOverflow}, // also of no tax
	{api.Code{Kind: 2, Amount: 1000}, top, 1, 1, api.ErrOverflow}, {api.Code{Kind: 2, Amount: 12_000}, top - 999, 1, 12, api.ErrOverflow}, {api.Code{Kind: 1, Amount: 1000}, -top, 1, 1, api.ErrOverflow}, {api.Code{Kind: 1, Amount: 12_000}, -top + 999, 1, 12, api.ErrOverflow}, // with what is put to it, or free
}

// P13.1, P13.2, P13.5: the errors of Exact are those of all that reckon by it; beside one all else is zero.
func TestExactRefuses(t *testing.T) {
	for _, c := range wrong {
		name := fmt.Sprintf("(%v, %d, %d, %d)", c.c, c.taxable, c.n, c.d)
		exact, e := tax.Exact(sample(), c.c, c.taxable, c.n, c.d)
		tells(t, "Exact"+name, exact, e, 0, c.want)
		due, e := tax.Due(sample(), c.c, c.taxable, c.n, c.d)
		tells(t, "Due"+name, due, e, 0, c.want)
		rate, e := tax.Rate(sample(), c.c, c.taxable, c.n, c.d)
		tells(t, "Rate"+name, rate, e, 0, c.want)
		shares, e := tax.Explain(sample(), c.c, c.taxable, c.n, c.d)
		tellsAll(t, "Explain"+name, shares, e, nil, c.want)
		part, e := tax.Average(sample(), c.c, c.taxable, c.n, c.d)
		tells(t, "Average"+name, part, e, 0, c.want)
	}
}

// chance: a table of a few bands of few coins that may be.
func chance(r *rand.Rand) api.Table {
	t := api.Table{Limit: r.Intn(full + 1), Round: 1 + r.Intn(6), Kinds: []api.Kind{{Name: "salary"}}}
	for range 1 + r.Intn(3) {
		var scheme []api.Band
		from := int64(0)
		for range 1 + r.Intn(8) {
			scheme = append(scheme, api.Band{From: from, Rate: r.Intn(3) * r.Intn(full/2+1)})
			from += 1 + r.Int63n(40)
		}
		t.Schemes = append(t.Schemes, scheme)
	}
	return t
}

// fitting: a code that may be with a table.
func fitting(r *rand.Rand, t api.Table) api.Code {
	c := api.Code{Scheme: r.Intn(len(t.Schemes)), Kind: 1 + r.Intn(4), Alone: r.Intn(2) == 0}
	switch c.Kind {
	case api.CodeFree:
		c.Amount = r.Int63n(4) * 1000
	case api.CodeExtra:
		c.Amount = (1 + r.Int63n(3)) * 1000
	case api.CodeFlat:
		c.Flat = r.Intn(len(t.Schemes[c.Scheme]))
	}
	return c
}

// part: a part of the year by which not much is free.
func part(r *rand.Rand) (int, int) {
	d := []int{1, 12, 13, 26, 52, 500}[r.Intn(6)]
	return r.Intn(min(d, 8) + 1), d
}

// scaled: a number that isn't below 0 by a part, without what is behind the point.
func scaled(x int64, n, d int) int64 { return x * int64(n) / int64(d) }

// freed: how much is free, or, below 0, put to what is taxed.
func freed(c api.Code, n, d int) int64 {
	if c.Kind == api.CodeExtra {
		return -scaled(c.Amount, n, d)
	}
	return scaled(c.Amount, n, d)
}

// coin: the number of the band in which a coin that is charged is, and its rate; coins are numbered from 0 on.
func coin(t api.Table, c api.Code, i int64, n, d int) (int, int) {
	scheme := t.Schemes[c.Scheme]
	if c.Kind == api.CodeFlat {
		return c.Flat, scheme[c.Flat].Rate
	}
	in := 0
	for j, b := range scheme {
		if scaled(b.From, n, d) <= i {
			in = j
		}
	}
	return in, scheme[in].Rate
}

// coins: what Explain must tell, coin by coin.
func coins(t api.Table, c api.Code, taxable int64, n, d int) []tax.Share {
	if c.Kind == api.CodeNone {
		return nil
	}
	var list []tax.Share
	last := -1
	for i := range max(taxable-freed(c, n, d), 0) {
		in, rate := coin(t, c, i, n, d)
		if in != last {
			list, last = append(list, tax.Share{Rate: rate}), in
		}
		s := &list[len(list)-1]
		s.Amount++
		s.Tax += frac.Exact(rate)
	}
	return list
}

// P13.1, P13.2, P13.5: each coin by its own band: all together, the next one, each band's, and of each coin of the amount.
func TestCoins(t *testing.T) {
	r := rand.New(rand.NewSource(13))
	for range 6000 {
		x := chance(r)
		if e := table.Check(x); e != api.OK {
			t.Fatalf("%v may not be: %v", x, e)
		}
		c := fitting(r, x)
		n, d := part(r)
		taxable := freed(c, n, d) + r.Int63n(400) - 20
		shares := coins(x, c, taxable, n, d)
		want := frac.Exact(0)
		for _, s := range shares {
			want += s.Tax
		}
		more := frac.Exact(0)
		for _, s := range coins(x, c, taxable+1, n, d) {
			more += s.Tax
		}
		average := 0
		if taxable > 0 {
			average = int(int64(want) / taxable)
		}
		name := fmt.Sprintf("(%v, %v, %d, %d, %d)", x.Schemes, c, taxable, n, d)
		exact, e := tax.Exact(x, c, taxable, n, d)
		tells(t, "Exact"+name, exact, e, want, api.OK)
		rate, e := tax.Rate(x, c, taxable, n, d)
		tells(t, "Rate"+name, rate, e, int(more-want), api.OK)
		got, e := tax.Explain(x, c, taxable, n, d)
		tellsAll(t, "Explain"+name, got, e, shares, api.OK)
		of, e := tax.Average(x, c, taxable, n, d)
		tells(t, "Average"+name, of, e, average, api.OK)
	}
}

// great: what an amount comes to, in big numbers.
func great(t api.Table, c api.Code, taxable int64, n, d int) *big.Int {
	sum := big.NewInt(0)
	if c.Kind == api.CodeNone {
		return sum
	}
	by := func(x int64) int64 {
		q := new(big.Int).Mul(big.NewInt(x), big.NewInt(int64(n)))
		return q.Quo(q, big.NewInt(int64(d))).Int64()
	}
	charged := taxable - by(c.Amount)
	if c.Kind == api.CodeExtra {
		charged = taxable + by(c.Amount)
	}
	put := func(amount int64, rate int) {
		if amount > 0 {
			sum.Add(sum, new(big.Int).Mul(big.NewInt(amount), big.NewInt(int64(rate))))
		}
	}
	scheme := t.Schemes[c.Scheme]
	if c.Kind == api.CodeFlat {
		put(charged, scheme[c.Flat].Rate)
		return sum
	}
	for i, b := range scheme {
		upto := charged
		if i+1 < len(scheme) {
			upto = min(upto, by(scheme[i+1].From))
		}
		put(upto-by(b.From), b.Rate)
	}
	return sum
}

// P13.1: the greatest amounts, bands and parts of the year.
func TestExactGreat(t *testing.T) {
	r := rand.New(rand.NewSource(131))
	for range 5000 {
		x := chance(r)
		for _, scheme := range x.Schemes {
			for j := range scheme {
				scheme[j].From = int64(j) * (top/8 + r.Int63n(top/70))
			}
			scheme[0].Rate = full
		}
		c := fitting(r, x)
		if c.Amount > 0 {
			c.Amount = (1 + r.Int63n(999_999)) * 1000
		}
		d := 1 + r.Intn(wide)
		n := r.Intn(d + 1)
		taxable := r.Int63n(2*top-2_000_000_000) - top + 1_000_000_000
		got, e := tax.Exact(x, c, taxable, n, d)
		if e != api.OK || big.NewInt(int64(got)).Cmp(great(x, c, taxable, n, d)) != 0 {
			t.Fatalf("Exact(%v, %v, %d, %d, %d): %d, %v, not %v", x.Schemes, c, taxable, n, d, got, e, great(x, c, taxable, n, d))
		}
	}
}

// P13.1: in least coins, by each way of rounding.
func TestDue(t *testing.T) {
	x := sample()
	x.Schemes = [][]api.Band{{{Rate: 5000}}, {{Rate: 4999}}, {{Rate: 5001}}}
	for _, c := range []struct {
		code    string
		taxable int64
		want    [6]int64 // down, up, inward, halfup, halfeven, halfdown
	}{
		{"0L", 0, [6]int64{}}, {"0L", -3, [6]int64{}}, {"0L", 2, [6]int64{1, 1, 1, 1, 1, 1}}, {"0L", 1, [6]int64{0, 1, 0, 1, 0, 0}}, {"0L", 3, [6]int64{1, 2, 1, 2, 2, 1}}, {"0L", 5, [6]int64{2, 3, 2, 3, 2, 2}},
		{"P0L", 1, [6]int64{0, 1, 0, 0, 0, 0}}, {"Q0L", 1, [6]int64{0, 1, 0, 1, 1, 1}}, {"PD0", 3, [6]int64{1, 2, 1, 1, 1, 1}}, {"QD0", 3, [6]int64{1, 2, 1, 2, 2, 2}}, {"QNT", 3, [6]int64{}}, {"0L", top - 1, [6]int64{top/2 - 1, top / 2, top/2 - 1, top / 2, top / 2, top/2 - 1}},
	} {
		for mode, want := range c.want {
			x.Round = mode + 1
			got, e := tax.Due(x, coded(t, c.code), c.taxable, 1, 1)
			tells(t, fmt.Sprintf("Due(%s, %d), rounded by %d", c.code, c.taxable, x.Round), got, e, want, api.OK)
		}
	}
	got, e := tax.Due(sample(), coded(t, "12L"), 5000, 1, 12)
	tells(t, "the document's example", got, e, 800, api.OK)
	x = sample()
	x.Round = api.Up
	got, e = tax.Due(x, coded(t, "12LX"), 1001, 1, 12)
	tells(t, "a part of a coin", got, e, 1, api.OK)
}

// P13.2: the rate of the next coin, at the edges of what is free and of the bands; the error of the amount is ahead of that of a coin more.
func TestRate(t *testing.T) {
	for _, c := range []struct {
		code    string
		taxable int64
		n, d    int
		want    int
		e       api.Errno
	}{
		{"12L", 999, 1, 12, 0, api.OK}, {"12L", 1000, 1, 12, 2000, api.OK}, {"12L", -top + 12_000, 1, 1, 0, api.OK}, {"P0L", 999, 1, 12, 0, api.OK}, {"P0L", 1000, 1, 12, 2000, api.OK}, {"P0L", 2999, 1, 12, 2000, api.OK}, {"P0L", 3000, 1, 12, 4000, api.OK}, {"P0L", top - 1, 1, 12, 4000, api.OK}, {"Q0L", 11, 1, 1, 0, api.OK}, {"Q0L", 12, 1, 1, 10_000, api.OK},
		{"K12", -1001, 1, 12, 0, api.OK}, {"K12", -1000, 1, 12, 2000, api.OK}, {"D0", -1, 1, 12, 0, api.OK}, {"D0", 0, 1, 12, 2000, api.OK}, {"PD2", 5, 1, 12, 4000, api.OK}, {"PD0", 5, 1, 12, 0, api.OK}, {"NT", 5, 1, 12, 0, api.OK}, {"NT", top - 1, 1, 12, 0, api.OK},
		{"0L", top, 1, 1, 0, api.ErrOverflow}, {"D0", top, 1, 1, 0, api.ErrOverflow}, {"NT", top, 1, 1, 0, api.ErrOverflow}, {"K1", top - 1000, 1, 1, 0, api.ErrOverflow}, {"K1", top - 1001, 1, 1, 2000, api.OK}, {"1L", top, 1, 1, 0, api.ErrOverflow}, // that of a coin more
		{"1L", -top + 999, 1, 1, 0, api.ErrOverflow}, {"1L", -top + 1000, 1, 1, 0, api.OK}, {"0L", -top - 1, 1, 1, 0, api.ErrOverflow}, {"NT", -top - 1, 1, 1, 0, api.ErrOverflow}, // a coin more may be
	} {
		got, e := tax.Rate(sample(), coded(t, c.code), c.taxable, c.n, c.d)
		tells(t, fmt.Sprintf("Rate(%s, %d, %d, %d)", c.code, c.taxable, c.n, c.d), got, e, c.want, c.e)
	}
}

// P13.3: by a code that stands alone or not, period by period.
func TestNext(t *testing.T) {
	weeks, months := begun(t, api.Weekly, "2023-04-06"), begun(t, api.Monthly, "2023-04-06")
	for _, c := range []struct {
		y              *period.Year
		k              int
		code           string
		own            int64
		taxable, ahead int64
		want           int64
		e              api.Errno
	}{
		{months, 1, "12L", 9, 5000, 77, 800, api.OK}, {months, 2, "12L", 9, 5000, 77, 600, api.OK}, {months, 12, "12L", 9, 12_005, 77, 1, api.OK}, {weeks, 1, "52L", 9, 1005, 77, 1, api.OK}, {weeks, 52, "52L", 9, 52_010, 77, 2, api.OK}, {weeks, 53, "52L", 9, 52_010, 77, 2, api.OK}, // no more is free in the 53rd week
		{months, 1, "12LX", 5000, 9, 77, 877, api.OK}, {months, 2, "12LX", 5000, 9, 77, 877, api.OK}, {months, 12, "12LX", 5000, 9, -77, 723, api.OK}, {weeks, 53, "52LX", 1005, 9, 3, 4, api.OK}, {weeks, 52, "52LX", 999, 9, 3, 3, api.OK}, {months, 3, "PD2X", 5, 9, 0, 2, api.OK}, {months, 3, "NTX", 5000, 9, 77, 77, api.OK}, {months, 3, "NT", 5000, 9, 77, 0, api.OK}, {months, 3, "K12X", 0, 9, 1, 201, api.OK}, {months, 3, "K12", 0, 0, 1, 600, api.OK},
		{months, 1, "12L", math.MinInt64, 5000, math.MaxInt64, 800, api.OK}, {months, 1, "12LX", 5000, math.MinInt64, 77, 877, api.OK}, // what it doesn't go by may be anything
		{months, 0, "12L", 9, 5000, 0, 0, api.ErrRange}, {months, 13, "12LX", 9, 5000, 0, 0, api.ErrRange}, {weeks, 54, "12L", 9, 5000, 0, 0, api.ErrRange}, {months, math.MinInt, "Q12L", top + 1, top + 1, top + 1, 0, api.ErrRange}, {months, math.MaxInt, "Q12LX", top + 1, top + 1, top + 1, 0, api.ErrRange}, {months, 13, "R0L", 9, 5000, 0, 0, api.ErrRange}, // ahead of the others
		{months, 1, "R0L", top + 1, top + 1, top + 1, 0, api.ErrScheme}, {months, 1, "R0LX", top + 1, top + 1, top + 1, 0, api.ErrScheme}, {months, 1, "D1X", 5, 5, top + 1, 0, api.ErrCode}, {months, 1, "0L", 5, top + 1, 5, 0, api.ErrOverflow}, {months, 1, "0LX", top + 1, 5, 5, 0, api.ErrOverflow},
		{months, 1, "0LX", 5, 5, top + 1, 0, api.ErrOverflow}, {months, 1, "0LX", 5, 5, top - 1, top, api.OK}, {months, 1, "0LX", 10, 5, top - 1, 0, api.ErrOverflow}, {months, 1, "0LX", 5, 5, -top - 1, 0, api.ErrOverflow}, {months, 1, "NTX", 5, 5, -top - 1, 0, api.ErrOverflow},
	} {
		got, e := tax.Next(sample(), c.y, c.k, tax.Step{Code: coded(t, c.code), Taxable: c.own}, c.taxable, c.ahead)
		tells(t, fmt.Sprintf("Next(%d, %s of %d, %d, %d)", c.k, c.code, c.own, c.taxable, c.ahead), got, e, c.want, c.e)
	}
	up := sample()
	up.Round = api.Up
	got, e := tax.Next(up, months, 5, tax.Step{Code: coded(t, "0LX"), Taxable: 1}, 0, 7)
	tells(t, "Next, rounded up", got, e, 8, api.OK)
}

// steps: periods of one code.
func steps(c api.Code, list ...int64) []tax.Step {
	var all []tax.Step
	for _, x := range list {
		all = append(all, tax.Step{Code: c, Taxable: x})
	}
	return all
}

// P13.3: all of the year so far, each period alone, and both in one year.
func TestYear(t *testing.T) {
	months := begun(t, api.Monthly, "2023-04-06")
	free, alone, none := coded(t, "12L"), coded(t, "12LX"), coded(t, "NT")
	for _, c := range []struct {
		list []tax.Step
		want []int64
	}{
		{nil, nil}, {steps(free, 5000), []int64{800}}, {steps(free, 5000, 5000, 5000), []int64{800, 1600, 2400}}, {steps(free, 5000, 0, 0, 0, 0), []int64{800, 600, 400, 200, 0}}, {steps(free, 5000, -5000, 500, 3505), []int64{800, 0, 0, 1}}, // what is free in a period alone is free later on
		{steps(alone, 5000, 5000, 5000), []int64{800, 1600, 2400}}, {steps(alone, 5000, 0, 0), []int64{800, 800, 800}}, {steps(alone, 0, 0, 5000), []int64{0, 0, 800}}, {steps(alone, 500, 1505, -5000, 1505), []int64{0, 101, 101, 202}},
		{slices.Concat(steps(free, 5000), steps(alone, 5000), steps(free, 0)), []int64{800, 1600, 1400}}, {slices.Concat(steps(alone, 5000, 0), steps(free, 0), steps(alone, 5000)), []int64{800, 800, 400, 1200}}, {slices.Concat(steps(none, 5000), steps(free, 5000), steps(none, 5000), steps(alone, 2000)), []int64{0, 1600, 0, 200}},
		{steps(coded(t, "0L"), top, -top, top), []int64{top / 5, 0, top / 5}},
	} {
		got, e := tax.Year(sample(), months, c.list...)
		tellsAll(t, fmt.Sprintf("Year(%v)", c.list), got, e, c.want, api.OK)
	}
}

// P13.3: as many periods as the year has, and no more; what comes first is told.
func TestYearRefuses(t *testing.T) {
	weeks, months := begun(t, api.Weekly, "2023-04-06"), begun(t, api.Monthly, "2023-04-06")
	ok, missing := coded(t, "0L"), coded(t, "R0L")
	for _, c := range []struct {
		y    *period.Year
		list []tax.Step
		want api.Errno
	}{
		{months, make([]tax.Step, 13), api.ErrRange}, {months, steps(ok, make([]int64, 13)...), api.ErrRange}, {weeks, steps(ok, make([]int64, 54)...), api.ErrRange}, {begun(t, api.Fortnightly, "2022-01-01"), steps(ok, make([]int64, 28)...), api.ErrRange},
		{months, steps(missing, 5), api.ErrScheme}, {months, make([]tax.Step, 12), api.ErrCode}, {months, slices.Concat(steps(ok, 5, 5), steps(missing, 5)), api.ErrScheme}, {months, slices.Concat(steps(missing, 5), make([]tax.Step, 3)), api.ErrScheme}, {months, steps(missing, top+1), api.ErrOverflow}, {months, slices.Concat(steps(missing, 5), steps(ok, top+1)), api.ErrScheme}, // the sum of a period is ahead of its tax, not of the period ahead
		{months, steps(ok, top, 1), api.ErrOverflow}, {months, steps(ok, -top, -1), api.ErrOverflow}, {months, steps(ok, top+1), api.ErrOverflow}, {months, steps(ok, -5, top+1), api.ErrOverflow}, {months, steps(coded(t, "NTX"), top, 1), api.ErrOverflow}, {months, steps(coded(t, "12L"), -top), api.ErrOverflow}, {months, steps(coded(t, "12LX"), 5, 5, 5-top), api.ErrOverflow},
	} {
		got, e := tax.Year(sample(), c.y, c.list...)
		tellsAll(t, fmt.Sprintf("Year(%v)", c.list), got, e, nil, c.want)
	}
	for _, y := range []*period.Year{weeks, months, begun(t, api.Fortnightly, "2022-01-01"), begun(t, api.FourWeekly, "2022-01-01")} {
		got, e := tax.Year(sample(), y, steps(ok, slices.Repeat([]int64{5}, y.Count())...)...)
		if len(got) != y.Count() || e != api.OK || got[len(got)-1] != int64(y.Count()) {
			t.Errorf("Year of %d periods: %v, %v", y.Count(), got, e)
		}
	}
}

// P13.3: against Due of each period, put together by hand.
func TestYearMany(t *testing.T) {
	r := rand.New(rand.NewSource(133))
	for range 2000 {
		x := chance(r)
		freq := 1 + r.Intn(4)
		y := begun(t, freq, "2023-04-06")
		whole := []int{52, 26, 13, 12}[freq-1]
		list := make([]tax.Step, r.Intn(y.Count()+1))
		var want []int64
		sum, ahead := int64(0), int64(0)
		for i := range list {
			list[i] = tax.Step{Code: fitting(r, x), Taxable: r.Int63n(600) - 100}
			sum += list[i].Taxable
			var e api.Errno
			if list[i].Code.Alone {
				own, f := tax.Due(x, list[i].Code, list[i].Taxable, 1, whole)
				ahead, e = ahead+own, f
			} else {
				ahead, e = tax.Due(x, list[i].Code, sum, min(i+1, whole), whole)
			}
			if e != api.OK {
				t.Fatalf("Due: %v", e)
			}
			want = append(want, ahead)
		}
		got, e := tax.Year(x, y, list...)
		tellsAll(t, fmt.Sprintf("Year(%v, %d, %v)", x.Schemes, freq, list), got, e, want, api.OK)
	}
}

// P13.4: what is free, and each corner of the scaled bands above it.
func TestCorners(t *testing.T) {
	for _, c := range []struct {
		code string
		n, d int
		want []int64
	}{
		{"12L", 1, 12, []int64{1000}}, {"0L", 1, 12, []int64{0}}, {"P0L", 1, 1, []int64{0, 12_000, 36_000}}, {"P0L", 1, 12, []int64{0, 1000, 3000}}, {"P12L", 1, 12, []int64{1000, 2000, 4000}}, {"P12LX", 5, 12, []int64{5000, 10_000, 20_000}}, {"PK12", 1, 12, []int64{-1000, 0, 2000}}, {"QK1", 1, 3, []int64{-333, -332, -330, -329}}, {"Q1L", 1, 3, []int64{333, 334, 336, 337}}, {"Q0L", 1, 12, []int64{0, 1}}, {"Q0L", 1, 13, []int64{0}}, {"P12L", 0, 12, []int64{0}},
		{"D0", 1, 12, []int64{0}}, {"PD2X", 1, 12, []int64{0}}, {"NT", 1, 12, nil}, {"QNTX", 1, 12, nil}, {"K999999", 1, 1, []int64{-999_999_000}},
	} {
		got, e := tax.Corners(sample(), coded(t, c.code), c.n, c.d)
		tellsAll(t, fmt.Sprintf("Corners(%s, %d, %d)", c.code, c.n, c.d), got, e, c.want, api.OK)
	}
	for _, c := range wrong {
		if c.want == api.ErrOverflow { // of an amount, which isn't asked for
			continue
		}
		got, e := tax.Corners(sample(), c.c, c.n, c.d)
		tellsAll(t, fmt.Sprintf("Corners(%v, %d, %d)", c.c, c.n, c.d), got, e, nil, c.want)
	}
	far := sample()
	far.Schemes[0] = []api.Band{{}, {From: top - 1, Rate: 1}, {From: top, Rate: 2}}
	got, e := tax.Corners(far, coded(t, "1L"), 1, 1)
	tellsAll(t, "Corners beyond the most", got, e, []int64{1000, top + 999, top + 1000}, api.OK)
}

// P13.4: elsewhere the rate of an amount is that of the coin ahead of it; at a corner it isn't, if the bands' rates tell it.
func TestCornersRate(t *testing.T) {
	r := rand.New(rand.NewSource(134))
	for range 600 {
		x := chance(r)
		for _, scheme := range x.Schemes {
			for j := range scheme { // no two beside each other are alike, nor is what is free like the first one
				scheme[j].Rate = 1 + j%2 + r.Intn(100)*2
			}
		}
		c := fitting(r, x)
		n, d := part(r)
		corners, e := tax.Corners(x, c, n, d)
		if e != api.OK || !slices.IsSorted(corners) || len(slices.Compact(slices.Clone(corners))) != len(corners) {
			t.Fatalf("Corners(%v, %v, %d, %d): %v, %v", x.Schemes, c, n, d, corners, e)
		}
		var want []int64
		low := min(freed(c, n, d), 0) - 3
		was, _ := tax.Rate(x, c, low, n, d)
		for at := low + 1; at < max(freed(c, n, d), 0)+330; at++ {
			is, e := tax.Rate(x, c, at, n, d)
			if e != api.OK {
				t.Fatalf("Rate: %v", e)
			}
			if is != was {
				want = append(want, at)
			}
			was = is
		}
		tellsAll(t, fmt.Sprintf("Corners(%v, %v, %d, %d)", x.Schemes, c, n, d), corners, e, want, api.OK)
	}
}

// P13.5: each band in which something is, one that is free, too; of a flat code one, if something is charged.
func TestExplain(t *testing.T) {
	type list = []tax.Share
	for _, c := range []struct {
		code    string
		taxable int64
		n, d    int
		want    list
	}{
		{"12L", 5000, 1, 12, list{{2000, 4000, 800 * full}}}, {"12L", 1001, 1, 12, list{{2000, 1, 2000}}}, {"12L", 1000, 1, 12, nil}, {"12L", -5, 1, 12, nil}, {"K12", -1000, 1, 12, nil}, {"K12", -999, 1, 12, list{{2000, 1, 2000}}},
		{"P0L", 12_000, 1, 1, list{{0, 12_000, 0}}}, {"P0L", 12_001, 1, 1, list{{0, 12_000, 0}, {2000, 1, 2000}}}, {"P0L", 36_000, 1, 1, list{{0, 12_000, 0}, {2000, 24_000, 4800 * full}}}, {"P12L", 4005, 1, 12, list{{0, 1000, 0}, {2000, 2000, 400 * full}, {4000, 5, 2 * full}}},
		{"Q0L", 14, 1, 1, list{{1000, 5, 5000}, {2500, 6, 15_000}, {0, 1, 0}, {10_000, 2, 2 * full}}}, {"Q0L", 3, 1, 12, list{{0, 1, 0}, {10_000, 2, 2 * full}}}, {"Q0L", 3, 1, 13, list{{10_000, 3, 3 * full}}}, {"P0L", 9, 0, 1, list{{4000, 9, 9 * 4000}}},
		{"PD2", 50_000, 1, 12, list{{4000, 50_000, 20_000 * full}}}, {"PD0", 5, 1, 12, list{{0, 5, 0}}}, {"PD2", 0, 1, 12, nil}, {"PD2", -5, 1, 12, nil}, {"NT", 5000, 1, 12, nil}, {"PNTX", top, 1, 12, nil}, {"QD3", top, 1, 1, list{{full, top, top * full}}},
	} {
		got, e := tax.Explain(sample(), coded(t, c.code), c.taxable, c.n, c.d)
		tellsAll(t, fmt.Sprintf("Explain(%s, %d, %d, %d)", c.code, c.taxable, c.n, c.d), got, e, c.want, api.OK)
	}
	alike := sample()
	alike.Schemes[0] = []api.Band{{Rate: 7}, {From: 5, Rate: 7}}
	got, e := tax.Explain(alike, coded(t, "0L"), 6, 1, 1)
	tellsAll(t, "Explain of bands that are alike", got, e, list{{7, 5, 35}, {7, 1, 7}}, api.OK)
}

// P13.5: of each coin that is taxable, without what is behind the point; of nothing and less 0.
func TestAverage(t *testing.T) {
	for _, c := range []struct {
		code    string
		taxable int64
		n, d    int
		want    int
	}{
		{"12L", 5000, 1, 12, 1600}, {"12L", 1000, 1, 12, 0}, {"12L", 3000, 1, 12, 1333}, {"12L", 6000, 1, 12, 1666}, {"0L", 7, 1, 12, 2000}, {"0L", 0, 1, 12, 0}, {"0L", -5, 1, 12, 0}, {"P0L", 36_001, 1, 1, 1333}, {"P0L", 12_001, 1, 1, 0}, {"P0L", top, 1, 1, 3999}, {"PD2", 5, 1, 12, 4000}, {"QD3", top, 1, 1, full}, {"NT", 5000, 1, 12, 0},
		{"K12", 1, 1, 12, 1001 * 2000}, {"K12", 1000, 1, 12, 4000}, {"K12", 0, 1, 12, 0}, {"K12", -5, 1, 12, 0}, {"K999999", 1, 1, 1, 999_999_001 * 2000}, // more than the whole, of what is put to it
	} {
		got, e := tax.Average(sample(), coded(t, c.code), c.taxable, c.n, c.d)
		tells(t, fmt.Sprintf("Average(%s, %d, %d, %d)", c.code, c.taxable, c.n, c.d), got, e, c.want, api.OK)
	}
}

// P2: what is handed in stays as it is, its spare room too, and is shared with no answer.
func TestMemory(t *testing.T) {
	x := sample()
	x.Schemes = append(x.Schemes, []api.Band{{Rate: 9}})
	x.Schemes[1] = append(x.Schemes[1], api.Band{From: 7})[:3]
	was := table.Clone(x)
	x.Schemes = x.Schemes[:3]
	y := begun(t, api.Monthly, "2023-04-06")
	c := coded(t, "P12L")
	list := append(steps(c, 5000, 6000), tax.Step{Taxable: 77})
	had := slices.Clone(list)
	corners, _ := tax.Corners(x, c, 1, 12)
	shares, _ := tax.Explain(x, c, 5000, 1, 12)
	dues, _ := tax.Year(x, y, list[:2]...)
	wants := fmt.Sprint(corners, shares, dues)
	for range 2 { // spoil another answer of each
		a, _ := tax.Corners(x, c, 1, 12)
		b, _ := tax.Explain(x, c, 5000, 1, 12)
		d, _ := tax.Year(x, y, list[:2]...)
		if got := fmt.Sprint(a, b, d); got != wants {
			t.Errorf("the same calls answer %s, not %s", got, wants)
		}
		fill(a, -77)
		fill(b, tax.Share{Rate: -77})
		fill(d, -77)
	}
	tax.Rate(x, c, 5000, 1, 12)
	tax.Average(x, c, 5000, 1, 12)
	if fmt.Sprint(corners, shares, dues) != wants {
		t.Error("two answers share")
	}
	if !table.Same(api.Table{Limit: x.Limit, Round: x.Round, Schemes: x.Schemes[:4], Kinds: x.Kinds}, was) || x.Schemes[1][:4][3] != (api.Band{From: 7}) || !slices.Equal(list, had) {
		t.Errorf("what is handed in was changed: %v, %v", x.Schemes[:4], list)
	}
}

// fill: writes over all of a list, its spare room too.
func fill[T any](list []T, with T) {
	list = list[:cap(list)]
	for i := range list {
		list[i] = with
	}
}

// P1, P2: no call panics, whatever it is given, tables that may not be, too; beside an error all is zero; the same calls answer the same.
func TestEnds(t *testing.T) {
	r := rand.New(rand.NewSource(135))
	numbers := []int{math.MinInt, -1, 0, 1, 2, 7, 8, 12, full, full + 1, wide, wide + 1, math.MaxInt}
	number := func() int { return numbers[r.Intn(len(numbers))] }
	amount := func() int64 { return edges[r.Intn(len(edges))] }
	y := begun(t, api.Monthly, "2023-04-06")
	for range 20_000 {
		x := chance(r)
		c := fitting(r, x)
		switch r.Intn(8) {
		case 0:
			x.Schemes = nil
		case 1:
			x.Schemes[0] = nil
		case 2:
			x.Schemes[c.Scheme][0] = api.Band{From: amount(), Rate: number()}
		case 3:
			x.Schemes[c.Scheme] = append(x.Schemes[c.Scheme], api.Band{From: amount(), Rate: number()})
		case 4:
			x.Round = number()
		case 5:
			c = api.Code{Scheme: number(), Kind: number(), Amount: amount(), Flat: number(), Alone: c.Alone}
		}
		taxable, ahead, n, d, k := amount(), amount(), number(), number(), number()
		list := []tax.Step{{Code: c, Taxable: amount()}, {Code: fitting(r, chance(r)), Taxable: amount()}}
		name := fmt.Sprintf("%v, %v, %d, %d, %d, %d, %v", x, c, taxable, ahead, n, d, list)
		told := func() string {
			defer func() {
				if why := recover(); why != nil {
					t.Errorf("%s: %v", name, why)
				}
			}()
			text := ""
			tell := func(zero bool, e api.Errno, x any) {
				if e != api.OK && !zero {
					t.Errorf("%s: %v beside %v", name, x, e)
				}
				text += fmt.Sprint(x, e)
			}
			exact, e := tax.Exact(x, c, taxable, n, d)
			tell(exact == 0, e, exact)
			due, e := tax.Due(x, c, taxable, n, d)
			tell(due == 0, e, due)
			rate, e := tax.Rate(x, c, taxable, n, d)
			tell(rate == 0, e, rate)
			next, e := tax.Next(x, y, k, list[0], taxable, ahead)
			tell(next == 0, e, next)
			dues, e := tax.Year(x, y, list...)
			tell(len(dues) == 0, e, dues)
			corners, e := tax.Corners(x, c, n, d)
			tell(len(corners) == 0, e, corners)
			shares, e := tax.Explain(x, c, taxable, n, d)
			tell(len(shares) == 0, e, shares)
			part, e := tax.Average(x, c, taxable, n, d)
			tell(part == 0, e, part)
			return text
		}
		if told() != told() {
			t.Errorf("the same calls answer otherwise: %s", name)
		}
	}
}
