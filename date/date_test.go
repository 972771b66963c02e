package date_test

import (
	"fmt"
	"math"
	"strings"
	"testing"
	"time"

	"stipend/api"
	"stipend/date"
)

// days: how many there are, by the document.
const days = 109_573

func day(year, month, day int) api.Date { return api.Date{Year: year, Month: month, Day: day} }

var (
	first = day(1900, 1, 1)
	last  = day(2199, 12, 31)
)

// none are no days.
var none = []api.Date{
	{}, day(0, 1, 1), day(-1, 1, 1), day(1899, 12, 31), day(2200, 1, 1), day(1600, 2, 29), day(2400, 2, 29), day(9999, 12, 31),
	day(math.MinInt, 1, 1), day(math.MaxInt, 12, 31), day(-2024, 1, 31), day(24, 1, 31),
	day(2024, 0, 1), day(2024, 13, 1), day(2024, -1, 1), day(2024, math.MinInt, 1), day(2024, math.MaxInt, 1),
	day(2024, 1, 0), day(2024, 1, 32), day(2024, 1, -1), day(2024, 1, math.MinInt), day(2024, 1, math.MaxInt),
	day(2024, 2, 30), day(2023, 2, 29), day(1900, 2, 29), day(2100, 2, 29), day(2000, 2, 30), day(2024, 4, 31),
	day(2024, 6, 31), day(2024, 9, 31), day(2024, 11, 31), day(2024, 12, 32), day(31, 1, 2024), day(1, 2024, 1),
	day(math.MinInt, math.MinInt, math.MinInt), day(math.MaxInt, math.MaxInt, math.MaxInt),
}

// counts are numbers at which something may go over.
var counts = []int{
	math.MinInt, math.MinInt + 1, math.MinInt32, -days - 1, -days, -days + 1, -3600, -3599, -366, -365, -31, -12, -7, -1, 0,
	1, 7, 11, 12, 31, 365, 366, 3599, 3600, days - 1, days, days + 1, math.MaxInt32, math.MaxInt - 1, math.MaxInt,
}

// some are days at which something may go over.
func some() []api.Date {
	list := []api.Date{
		first, day(1900, 1, 2), day(1900, 1, 6), day(1900, 1, 7), day(1900, 1, 31), day(1900, 2, 28), day(1900, 3, 1), day(1900, 12, 31),
		day(1904, 2, 29), day(1999, 12, 31), day(2000, 1, 1), day(2000, 2, 28), day(2000, 2, 29), day(2000, 3, 1), day(2000, 12, 31),
		day(2023, 1, 31), day(2023, 2, 28), day(2023, 4, 6), day(2024, 1, 31), day(2024, 2, 29), day(2024, 12, 30), day(2024, 12, 31),
		day(2099, 12, 31), day(2100, 2, 28), day(2100, 3, 1), day(2196, 2, 29), day(2198, 12, 31), day(2199, 1, 1), day(2199, 12, 30), last,
	}
	for month := 1; month <= 12; month++ {
		list = append(list, day(2025, month, 1), day(2025, month, date.Last(2025, month)))
	}
	return list
}

// real: the day as the library has it.
func real(d api.Date) time.Time {
	return time.Date(d.Year, time.Month(d.Month), d.Day, 0, 0, 0, 0, time.UTC)
}

// told: a day of the library's as ours; the zero one, if it is out of the years.
func told(x time.Time) api.Date {
	if x.Year() < 1900 || x.Year() > 2199 {
		return api.Date{}
	}
	return day(x.Year(), int(x.Month()), x.Day())
}

// each calls a function with all days and their numbers.
func each(do func(n int, d api.Date, x time.Time)) {
	x := real(first)
	for n := range days {
		do(n, told(x), x)
		x = x.AddDate(0, 0, 1)
	}
}

// want: a day is expected, or, where it is the zero one, ErrDate.
func want(t *testing.T, call string, got api.Date, e api.Errno, d api.Date) {
	t.Helper()
	wantE := api.OK
	if d == (api.Date{}) {
		wantE = api.ErrDate
	}
	if got != d || e != wantE {
		t.Errorf("%s: %v, %v, not %v, %v", call, got, e, d, wantE)
	}
}

func wantInt(t *testing.T, call string, got int, e api.Errno, n int, wantE api.Errno) {
	t.Helper()
	if got != n || e != wantE {
		t.Errorf("%s: %d, %v, not %d, %v", call, got, e, n, wantE)
	}
}

func TestLimits(t *testing.T) {
	if date.FirstYear != 1900 || date.LastYear != 2199 || date.Days != days {
		t.Error("the limits aren't the document's")
	}
}

// P3.1: every year of which it is promised.
func TestLeap(t *testing.T) {
	for year := 1; year <= 9999; year++ {
		end := time.Date(year, 12, 31, 0, 0, 0, 0, time.UTC)
		if got := date.Leap(year); got != (end.YearDay() == 366) {
			t.Errorf("Leap(%d): %v", year, got)
		}
	}
	for year, leap := range map[int]bool{1: false, 4: true, 100: false, 400: true, 1900: false, 2000: true, 2023: false, 2024: true, 2100: false, 9996: true, 9999: false} {
		if date.Leap(year) != leap {
			t.Errorf("Leap(%d) isn't %v", year, leap)
		}
	}
	for _, year := range counts { // P1: nothing more is promised of them
		date.Leap(year)
	}
}

// P3.1: every month, and those ahead and behind.
func TestLast(t *testing.T) {
	for year := 1890; year <= 2210; year++ {
		for month := -1; month <= 14; month++ {
			want := 0
			if year >= 1900 && year <= 2199 && month >= 1 && month <= 12 {
				want = time.Date(year, time.Month(month)+1, 0, 0, 0, 0, 0, time.UTC).Day()
			}
			if got := date.Last(year, month); got != want {
				t.Errorf("Last(%d, %d): %d, not %d", year, month, got, want)
			}
		}
	}
	for _, n := range counts {
		if date.Last(n, 1) != 0 {
			t.Errorf("Last(%d, 1) isn't 0", n)
		}
		if got := date.Last(2024, n); (n < 1 || n > 12) && got != 0 {
			t.Errorf("Last(2024, %d): %d", n, got)
		}
	}
}

// P3.1: each day is one, and there are no more of them.
func TestRight(t *testing.T) {
	there := 0
	for year := 1895; year <= 2205; year++ {
		for month := -1; month <= 14; month++ {
			for n := -1; n <= 33; n++ {
				if date.Right(day(year, month, n)) {
					there++
				}
			}
		}
	}
	if there != days {
		t.Errorf("%d days, not %d", there, days)
	}
	each(func(n int, d api.Date, _ time.Time) {
		if !date.Right(d) {
			t.Errorf("Right(%v) is false", d)
		}
	})
	for _, d := range none {
		if date.Right(d) {
			t.Errorf("Right(%v) is true", d)
		}
	}
}

// P3.1: by year, then month, then day, of any numbers.
func TestCompare(t *testing.T) {
	numbers := []int{math.MinInt, -1, 0, 1, 2, 28, 1900, 2024, math.MaxInt}
	var rising []api.Date
	for _, year := range numbers {
		for _, month := range numbers {
			for _, n := range numbers {
				rising = append(rising, day(year, month, n))
			}
		}
	}
	for i, a := range rising {
		for j, b := range rising {
			want := 0
			if i < j {
				want = -1
			} else if i > j {
				want = 1
			}
			if got := date.Compare(a, b); got != want {
				t.Fatalf("Compare(%v, %v): %d, not %d", a, b, got, want)
			}
		}
	}
}

// P3.2, P3.5, P3.6: of each day its number, its weekday and its text, there and back.
func TestEach(t *testing.T) {
	each(func(n int, d api.Date, x time.Time) {
		got, e := date.Number(d)
		wantInt(t, fmt.Sprintf("Number(%v)", d), got, e, n, api.OK)
		of, e := date.Of(n)
		want(t, fmt.Sprintf("Of(%d)", n), of, e, d)
		weekday := (int(x.Weekday()) + 6) % 7
		got, e = date.Weekday(d)
		wantInt(t, fmt.Sprintf("Weekday(%v)", d), got, e, weekday, api.OK)
		if work := date.Workday(d); work != (weekday < 5) {
			t.Errorf("Workday(%v): %v", d, work)
		}
		text := x.Format("2006-01-02")
		if s := date.Text(d); s != text {
			t.Errorf("Text(%v): %q, not %q", d, s, text)
		}
		read, e := date.Parse(text)
		want(t, fmt.Sprintf("Parse(%q)", text), read, e, d)
	})
}

// P3.2 to P3.6: of what is no day each call answers ErrDate, and nothing else.
func TestNoDay(t *testing.T) {
	for _, d := range none {
		got, e := date.Number(d)
		wantInt(t, fmt.Sprintf("Number(%v)", d), got, e, 0, api.ErrDate)
		got, e = date.Weekday(d)
		wantInt(t, fmt.Sprintf("Weekday(%v)", d), got, e, 0, api.ErrDate)
		back, e := date.Back(d)
		want(t, fmt.Sprintf("Back(%v)", d), back, e, api.Date{})
		if s := date.Text(d); s != "" {
			t.Errorf("Text(%v): %q", d, s)
		}
		if date.Workday(d) {
			t.Errorf("Workday(%v) is true", d)
		}
		for _, n := range counts {
			on, e := date.Add(d, n)
			want(t, fmt.Sprintf("Add(%v, %d)", d, n), on, e, api.Date{})
			on, e = date.Months(d, n)
			want(t, fmt.Sprintf("Months(%v, %d)", d, n), on, e, api.Date{})
		}
		for _, other := range append(some(), d) {
			for _, pair := range [][2]api.Date{{d, other}, {other, d}} {
				got, e := date.Between(pair[0], pair[1])
				wantInt(t, fmt.Sprintf("Between%v", pair), got, e, 0, api.ErrDate)
				got, e = date.Workdays(pair[0], pair[1])
				wantInt(t, fmt.Sprintf("Workdays%v", pair), got, e, 0, api.ErrDate)
			}
		}
	}
}

// P3.2: numbers of no day.
func TestOfNone(t *testing.T) {
	for _, n := range counts {
		if n < 0 || n >= days {
			d, e := date.Of(n)
			want(t, fmt.Sprintf("Of(%d)", n), d, e, api.Date{})
		}
	}
	d, e := date.Of(days - 1)
	want(t, "Of the last number", d, e, last)
}

// P3.2, P3.3, P3.4: what the document tells itself.
func TestExamples(t *testing.T) {
	d := day(2024, 1, 31)
	n, e := date.Number(d)
	wantInt(t, "Number", n, e, 45320, api.OK)
	n, e = date.Weekday(d)
	wantInt(t, "Weekday", n, e, 2, api.OK)
	on, e := date.Months(d, 1)
	want(t, "Months", on, e, day(2024, 2, 29))
	n, e = date.Between(d, on)
	wantInt(t, "Between", n, e, 29, api.OK)
	n, e = date.Weekday(first)
	wantInt(t, "Weekday of the first day", n, e, 0, api.OK)
}

// added: so many days on by the library, which takes no number of days.
func added(d api.Date, n int) api.Date {
	if n < -days || n > days {
		return api.Date{}
	}
	return told(real(d).AddDate(0, 0, n))
}

// P3.3: up to the first and the last day, and beyond.
func TestAdd(t *testing.T) {
	for _, d := range some() {
		n, _ := date.Number(d)
		for _, by := range append([]int{-n - 1, -n, -n + 1, days - n - 2, days - n - 1, days - n, math.MaxInt - n, math.MaxInt - n + 1, math.MinInt + n}, counts...) {
			got, e := date.Add(d, by)
			want(t, fmt.Sprintf("Add(%v, %d)", d, by), got, e, added(d, by))
		}
		for by := -800; by <= 800; by++ {
			got, e := date.Add(d, by)
			want(t, fmt.Sprintf("Add(%v, %d)", d, by), got, e, added(d, by))
		}
	}
}

// P3.3: below 0, if the second day is ahead.
func TestBetween(t *testing.T) {
	for _, a := range some() {
		for _, b := range some() {
			got, e := date.Between(a, b)
			behind := int((real(b).Unix() - real(a).Unix()) / 86400)
			wantInt(t, fmt.Sprintf("Between(%v, %v)", a, b), got, e, behind, api.OK)
		}
	}
	got, e := date.Between(last, first)
	wantInt(t, "Between the last one and the first one", got, e, 1-days, api.OK)
}

// moved: so many months on, walked month by month.
func moved(d api.Date, months int) api.Date {
	year, month := d.Year, d.Month
	for ; months > 0; months-- {
		if month++; month > 12 {
			year, month = year+1, 1
		}
	}
	for ; months < 0; months++ {
		if month--; month < 1 {
			year, month = year-1, 12
		}
	}
	if year < 1900 || year > 2199 {
		return api.Date{}
	}
	end := time.Date(year, time.Month(month)+1, 0, 0, 0, 0, 0, time.UTC).Day()
	return day(year, month, min(d.Day, end))
}

// P3.4: there and back, up to the first and the last month, and beyond.
func TestMonths(t *testing.T) {
	for _, d := range some() {
		ahead := (d.Year-1900)*12 + d.Month - 1
		for _, by := range []int{-ahead - 1, -ahead, -ahead + 1, 3598 - ahead, 3599 - ahead, 3600 - ahead, -3600, 3600} {
			got, e := date.Months(d, by)
			want(t, fmt.Sprintf("Months(%v, %d)", d, by), got, e, moved(d, by))
		}
		for by := -60; by <= 60; by++ {
			got, e := date.Months(d, by)
			want(t, fmt.Sprintf("Months(%v, %d)", d, by), got, e, moved(d, by))
		}
		for _, by := range []int{math.MinInt, math.MinInt + ahead, math.MinInt32, -days, days, math.MaxInt32, math.MaxInt - ahead, math.MaxInt} {
			got, e := date.Months(d, by)
			want(t, fmt.Sprintf("Months(%v, %d)", d, by), got, e, api.Date{})
		}
	}
}

// P3.4: a day that the month hasn't is its last one, told one by one.
func TestMonthsEnds(t *testing.T) {
	for _, c := range []struct {
		from api.Date
		by   int
		to   api.Date
	}{
		{day(2023, 1, 31), 1, day(2023, 2, 28)}, {day(2023, 1, 29), 1, day(2023, 2, 28)}, {day(2023, 1, 28), 1, day(2023, 2, 28)},
		{day(2023, 1, 30), 3, day(2023, 4, 30)}, {day(2023, 3, 31), -1, day(2023, 2, 28)}, {day(2023, 3, 31), -4, day(2022, 11, 30)},
		{day(2024, 2, 29), 12, day(2025, 2, 28)}, {day(2024, 2, 29), 48, day(2028, 2, 29)}, {day(2024, 2, 29), -12, day(2023, 2, 28)},
		{day(2096, 2, 29), 48, day(2100, 2, 28)}, {last, -3599, day(1900, 1, 31)}, {day(1900, 1, 31), 3599, last},
		{day(2199, 11, 30), 1, day(2199, 12, 30)}, {last, 1, api.Date{}}, {first, -1, api.Date{}}, {day(2024, 5, 31), 0, day(2024, 5, 31)},
	} {
		got, e := date.Months(c.from, c.by)
		want(t, fmt.Sprintf("Months(%v, %d)", c.from, c.by), got, e, c.to)
	}
}

// P3.5: texts of another form, and of no day.
func TestParseWrong(t *testing.T) {
	for _, s := range []string{
		"", "-", "--", "---", "2024", "2024-01", "2024-01-3", "2024-1-31", "2024-1-031", "24-01-31", "024-01-31", "02024-01-31", "2024-001-31",
		"2024-01-031", "2024-01-31 ", " 2024-01-31", " 024-01-31", "2024-01-31\n", "2024-01-31-", "-2024-01-31", "2024-01-3-", "2024--1-31",
		"2024-01--1", "+024-01-31", "2024-+1-31", "2024-01-+1", "-024-01-31", "2024/01/31", "2024-01/31", "2024.01.31", "20240131", "2024013100",
		"202-401-31", "20240-1-31", "2024-013-1", "0x24-01-31", "2_24-01-31", "2024-0_-31", "2024-01-3 ", "2024-01-3x", "2024-a1-31", "abcd-ef-gh",
		"2024\x0001-31", "2024-01-\xff1", "2024-01-3\xff", "２024-01-31", "2024-01-١", "2024—01-3", "2024-01-31\x00", "9999999999", "----------",
		strings.Repeat("2024-01-31", 2), strings.Repeat("-", 1000), strings.Repeat("9", 1000), "2024-01-" + strings.Repeat("0", 1000) + "31",
	} {
		if d, e := date.Parse(s); d != (api.Date{}) || e != api.ErrForm {
			t.Errorf("Parse(%q): %v, %v, not ErrForm", s, d, e)
		}
	}
	for _, s := range []string{
		"0000-00-00", "0000-01-01", "0024-01-31", "1899-12-31", "2200-01-01", "9999-12-31", "9999-99-99", "2024-00-01", "2024-13-01",
		"2024-01-00", "2024-01-32", "2024-02-30", "2023-02-29", "1900-02-29", "2100-02-29", "2024-04-31", "2024-99-01", "2024-01-99",
	} {
		if d, e := date.Parse(s); d != (api.Date{}) || e != api.ErrDate {
			t.Errorf("Parse(%q): %v, %v, not ErrDate", s, d, e)
		}
	}
}

// P3.5: of texts of its form Parse tells each byte.
func TestParseBytes(t *testing.T) {
	const text = "2011-11-11"
	for i := range len(text) {
		for b := range 256 {
			s := text[:i] + string([]byte{byte(b)}) + text[i+1:]
			_, e := date.Parse(s)
			digit := b >= '0' && b <= '9'
			if text[i] == '-' {
				digit = b == '-'
			}
			if digit == (e == api.ErrForm) {
				t.Errorf("Parse(%q): %v", s, e)
			}
		}
	}
}

// P3.6: a weekend's days go back to its Friday, all others stay.
func TestBack(t *testing.T) {
	friday := api.Date{}
	each(func(n int, d api.Date, x time.Time) {
		if n%7 < 5 {
			friday = d
		}
		got, e := date.Back(d)
		want(t, fmt.Sprintf("Back(%v)", d), got, e, friday)
	})
	for from, to := range map[api.Date]api.Date{
		first: first, day(2024, 6, 1): day(2024, 5, 31), day(2024, 6, 2): day(2024, 5, 31), day(2024, 6, 3): day(2024, 6, 3), day(2023, 1, 1): day(2022, 12, 30),
	} {
		got, e := date.Back(from)
		want(t, fmt.Sprintf("Back(%v)", from), got, e, to)
	}
}

// works: how many of the days ahead of each number are workdays.
func works() []int {
	sums := make([]int, days+1)
	each(func(n int, _ api.Date, x time.Time) {
		sums[n+1] = sums[n]
		if x.Weekday() != time.Saturday && x.Weekday() != time.Sunday {
			sums[n+1]++
		}
	})
	return sums
}

// P3.6: between all weekdays, over few weeks and many, and the wrong way round.
func TestWorkdays(t *testing.T) {
	sums := works()
	check := func(a, b int) {
		from, _ := date.Of(a)
		to, _ := date.Of(b)
		want := 0
		if a <= b {
			want = sums[b+1] - sums[a]
		}
		got, e := date.Workdays(from, to)
		wantInt(t, fmt.Sprintf("Workdays(%v, %v)", from, to), got, e, want, api.OK)
	}
	for a := range 30 {
		for b := range 60 {
			check(a, b)
			check(days-1-a, days-1-b)
			check(a, days-1-b)
			check(days-1-a, b)
			check(45000+a, 45000+b)
		}
	}
	got, e := date.Workdays(first, last)
	wantInt(t, "Workdays of all", got, e, sums[days], api.OK)
	saturday, sunday := day(2024, 6, 1), day(2024, 6, 2)
	got, e = date.Workdays(saturday, sunday)
	wantInt(t, "Workdays of a weekend", got, e, 0, api.OK)
	got, e = date.Workdays(day(2024, 6, 3), day(2024, 5, 31))
	wantInt(t, "Workdays the wrong way round", got, e, 0, api.OK)
}
