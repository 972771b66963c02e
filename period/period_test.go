package period_test

import (
	"fmt"
	"math"
	"strings"
	"testing"
	"time"

	"stipend/api"
	"stipend/period"
)

func day(year, month, day int) api.Date { return api.Date{Year: year, Month: month, Day: day} }

// freqs are the frequencies by the document: the number, the name, how many whole periods a year has, and how many days one has (0: a month).
var freqs = []struct {
	freq          int
	name          string
	nominal, days int
}{
	{api.Weekly, "weekly", 52, 7},
	{api.Fortnightly, "fortnightly", 26, 14},
	{api.FourWeekly, "fourweekly", 13, 28},
	{api.Monthly, "monthly", 12, 0},
}

var wrongFreqs = []int{0, -1, 5, 6, 12, 52, math.MinInt, math.MaxInt}

// noDays are no days.
var noDays = []api.Date{
	{}, day(2023, 0, 1), day(2023, 13, 1), day(2023, 1, 0), day(2023, 1, 32), day(2023, 2, 29), day(2023, -4, 6), day(1899, 12, 31),
	day(2200, 1, 1), day(math.MinInt, 1, 1), day(math.MaxInt, math.MaxInt, math.MaxInt), day(2100, 2, 29),
}

// real: the day as the library has it.
func real(d api.Date) time.Time {
	return time.Date(d.Year, time.Month(d.Month), d.Day, 0, 0, 0, 0, time.UTC)
}

func told(x time.Time) api.Date { return day(x.Year(), int(x.Month()), x.Day()) }

// moved: the same day so many months on, or the month's last one.
func moved(d api.Date, months int) time.Time {
	end := time.Date(d.Year, time.Month(d.Month+months+1), 0, 0, 0, 0, 0, time.UTC)
	return end.AddDate(0, 0, min(d.Day, end.Day())-end.Day())
}

// begins: the first days of a year's periods, and behind them that of the year behind.
func begins(start api.Date, days int) []time.Time {
	var list []time.Time
	next := moved(start, 12)
	if days == 0 {
		for k := range 12 {
			list = append(list, moved(start, k))
		}
		return append(list, next)
	}
	for x := real(start); x.Before(next); x = x.AddDate(0, 0, days) {
		list = append(list, x)
	}
	return append(list, next)
}

// starts are days with which a year may begin.
func starts() []api.Date {
	var list []api.Date
	for x := real(day(2022, 12, 1)); x.Year() < 2025; x = x.AddDate(0, 0, 1) {
		if x.Month() != 2 || x.Day() != 29 {
			list = append(list, told(x))
		}
	}
	for _, year := range []int{1900, 1903, 1904, 1999, 2000, 2026, 2027, 2028, 2095, 2096, 2099, 2100, 2197, 2198} {
		for month := 1; month <= 12; month++ {
			list = append(list, day(year, month, 1), day(year, month, 28), told(moved(day(year, month, 31), 0)))
		}
	}
	kept := list[:0]
	for _, d := range list {
		if d.Month != 2 || d.Day != 29 {
			kept = append(kept, d)
		}
	}
	return kept
}

func begun(t *testing.T, freq int, start api.Date) *period.Year {
	t.Helper()
	y, e := period.New(freq, start)
	if y == nil || e != api.OK {
		t.Fatalf("New(%d, %v): %v", freq, start, e)
	}
	return y
}

// every calls a function with years of all frequencies, and the first days of their periods.
func every(t *testing.T, do func(t *testing.T, y *period.Year, freq int, begins []time.Time)) {
	for i, f := range freqs {
		for _, start := range starts() {
			do(t, begun(t, f.freq, start), i, begins(start, f.days))
		}
	}
}

func wantInt(t *testing.T, call string, got int, e api.Errno, n int, wantE api.Errno) {
	t.Helper()
	if got != n || e != wantE {
		t.Errorf("%s: %d, %v, not %d, %v", call, got, e, n, wantE)
	}
}

func wantDay(t *testing.T, call string, got api.Date, e api.Errno, d api.Date, wantE api.Errno) {
	t.Helper()
	if got != d || e != wantE {
		t.Errorf("%s: %v, %v, not %v, %v", call, got, e, d, wantE)
	}
}

func wantNone(t *testing.T, call string, y *period.Year, e, wantE api.Errno) {
	t.Helper()
	if y != nil || e != wantE {
		t.Errorf("%s: %v, %v, not none, %v", call, y, e, wantE)
	}
}

func TestLimits(t *testing.T) {
	if period.Most != 53 {
		t.Error("the limit isn't the document's")
	}
}

// P4.1, P4.5: the frequencies, and what is none.
func TestFreqs(t *testing.T) {
	for _, f := range freqs {
		if got := period.Nominal(f.freq); got != f.nominal {
			t.Errorf("Nominal(%d): %d", f.freq, got)
		}
		if got := period.Name(f.freq); got != f.name {
			t.Errorf("Name(%d): %q", f.freq, got)
		}
		got, e := period.Freq(f.name)
		wantInt(t, f.name, got, e, f.freq, api.OK)
	}
	for _, freq := range wrongFreqs {
		if n, s := period.Nominal(freq), period.Name(freq); n != 0 || s != "" {
			t.Errorf("Nominal, Name(%d): %d, %q", freq, n, s)
		}
	}
	for _, s := range []string{"", " ", "Weekly", "WEEKLY", "weekly ", " weekly", "week", "weeklyy", "fort", "fortnightly\x00", "four-weekly", "four weekly", "monthly\n", "month", "yearly", "1", "\xff", strings.Repeat("weekly", 99)} {
		got, e := period.Freq(s)
		wantInt(t, fmt.Sprintf("Freq(%q)", s), got, e, 0, api.ErrFreq)
	}
}

// P4.1: what no year begins with.
func TestNewWrong(t *testing.T) {
	wrong := append([]api.Date{
		day(2024, 2, 29), day(2000, 2, 29), day(1904, 2, 29), day(2196, 2, 29), // a year on there is no such day
		day(2199, 1, 1), day(2199, 4, 6), day(2199, 12, 31), // a year on is no day
	}, noDays...)
	for _, f := range freqs {
		for _, d := range wrong {
			y, e := period.New(f.freq, d)
			wantNone(t, fmt.Sprintf("New(%d, %v)", f.freq, d), y, e, api.ErrDate)
		}
	}
	for _, freq := range wrongFreqs {
		for _, d := range append(wrong, day(2023, 4, 6)) {
			y, e := period.New(freq, d)
			wantNone(t, fmt.Sprintf("New(%d, %v)", freq, d), y, e, api.ErrFreq)
		}
	}
}

// P4.1, P4.2: from the first day to the one ahead of the same day a year on, in as many periods as that takes.
func TestNew(t *testing.T) {
	every(t, func(t *testing.T, y *period.Year, i int, begins []time.Time) {
		count := len(begins) - 1
		start, end := told(begins[0]), told(begins[count].AddDate(0, 0, -1))
		if y.Freq() != freqs[i].freq || y.Start() != start || y.End() != end {
			t.Errorf("%s from %v: %d, %v, %v, not up to %v", freqs[i].name, start, y.Freq(), y.Start(), y.End(), end)
		}
		if y.Count() != count || count > period.Most || count < freqs[i].nominal {
			t.Errorf("%s from %v: %d periods, not %d", freqs[i].name, start, y.Count(), count)
		}
	})
	for i, count := range []int{53, 27, 14, 12} {
		for _, start := range []api.Date{day(2022, 4, 6), day(2023, 4, 6), day(1900, 1, 1), day(2198, 12, 31)} {
			if got := begun(t, freqs[i].freq, start).Count(); got != count {
				t.Errorf("%s from %v: %d periods, not %d", freqs[i].name, start, got, count)
			}
		}
	}
}

// P4.2: the year behind begins behind the last day, and asking for it changes nothing.
func TestNext(t *testing.T) {
	every(t, func(t *testing.T, y *period.Year, i int, begins []time.Time) {
		start, end, next := y.Start(), y.End(), told(begins[len(begins)-1])
		on, e := y.Next()
		if next.Year == 2199 {
			wantNone(t, fmt.Sprintf("Next behind %v", end), on, e, api.ErrDate)
			return
		}
		if e != api.OK || on == nil || on.Freq() != freqs[i].freq || on.Start() != next || on.End() != told(moved(next, 12).AddDate(0, 0, -1)) {
			t.Fatalf("%s behind %v: %v, %v", freqs[i].name, end, on, e)
		}
		if on == y || y.Start() != start || y.End() != end || y.Freq() != freqs[i].freq {
			t.Errorf("%s from %v: Next changed it", freqs[i].name, start)
		}
	})
	y := begun(t, api.Weekly, day(1900, 1, 1))
	for year := 1900; year <= 2198; year++ {
		if y.Start() != day(year, 1, 1) || y.End() != day(year, 12, 31) {
			t.Fatalf("the year %d is from %v to %v", year, y.Start(), y.End())
		}
		on, e := y.Next()
		if year == 2198 {
			wantNone(t, "Next behind the last one", on, e, api.ErrDate)
		} else if y = on; y == nil {
			t.Fatalf("none behind %d: %v", year, e)
		}
	}
}

// P4.3, P4.6: each period, its days, and where each of them is.
func TestSpan(t *testing.T) {
	every(t, func(t *testing.T, y *period.Year, i int, begins []time.Time) {
		for k := 1; k < len(begins); k++ {
			name := fmt.Sprintf("%s from %v, %d", freqs[i].name, y.Start(), k)
			from, end := begins[k-1], begins[k].AddDate(0, 0, -1)
			first, last, e := y.Span(k)
			wantDay(t, name+": its first day", first, e, told(from), api.OK)
			wantDay(t, name+": its last day", last, e, told(end), api.OK)
			days := 0
			for x := from; !x.After(end); x = x.AddDate(0, 0, 1) {
				days++
				got, e := y.Index(told(x))
				wantInt(t, fmt.Sprintf("%s: Index(%v)", name, told(x)), got, e, k, api.OK)
			}
			got, e := y.Days(k)
			wantInt(t, name+": Days", got, e, days, api.OK)
		}
	})
}

// P4.3: periods told one by one.
func TestSpansTold(t *testing.T) {
	for _, c := range []struct {
		freq              int
		start             api.Date
		k                 int
		first, last       api.Date
		days, quarter, at int
	}{
		{api.Weekly, day(2023, 4, 6), 1, day(2023, 4, 6), day(2023, 4, 12), 7, 1, 1},
		{api.Weekly, day(2023, 4, 6), 52, day(2024, 3, 28), day(2024, 4, 3), 7, 4, 52},
		{api.Weekly, day(2023, 4, 6), 53, day(2024, 4, 4), day(2024, 4, 5), 2, 4, 52},
		{api.Weekly, day(2022, 4, 6), 53, day(2023, 4, 5), day(2023, 4, 5), 1, 4, 52},
		{api.Fortnightly, day(2023, 4, 6), 27, day(2024, 4, 4), day(2024, 4, 5), 2, 4, 26},
		{api.FourWeekly, day(2023, 4, 6), 14, day(2024, 4, 4), day(2024, 4, 5), 2, 4, 13},
		{api.FourWeekly, day(2023, 4, 6), 4, day(2023, 6, 29), day(2023, 7, 26), 28, 2, 4},
		{api.Monthly, day(2023, 4, 6), 2, day(2023, 5, 6), day(2023, 6, 5), 31, 1, 2},
		{api.Monthly, day(2023, 4, 6), 3, day(2023, 6, 6), day(2023, 7, 5), 30, 1, 3},
		{api.Monthly, day(2023, 4, 6), 4, day(2023, 7, 6), day(2023, 8, 5), 31, 2, 4},
		{api.Monthly, day(2023, 4, 6), 12, day(2024, 3, 6), day(2024, 4, 5), 31, 4, 12},
		{api.Monthly, day(2023, 1, 31), 1, day(2023, 1, 31), day(2023, 2, 27), 28, 1, 1},
		{api.Monthly, day(2023, 1, 31), 2, day(2023, 2, 28), day(2023, 3, 30), 31, 1, 2},
		{api.Monthly, day(2023, 1, 31), 3, day(2023, 3, 31), day(2023, 4, 29), 30, 1, 3},
		{api.Monthly, day(2023, 1, 31), 12, day(2023, 12, 31), day(2024, 1, 30), 31, 4, 12},
		{api.Monthly, day(2023, 3, 31), 12, day(2024, 2, 29), day(2024, 3, 30), 31, 4, 12},
		{api.Monthly, day(2023, 3, 31), 11, day(2024, 1, 31), day(2024, 2, 28), 29, 4, 11},
	} {
		name := fmt.Sprintf("%s from %v, %d", period.Name(c.freq), c.start, c.k)
		y := begun(t, c.freq, c.start)
		first, last, e := y.Span(c.k)
		wantDay(t, name, first, e, c.first, api.OK)
		wantDay(t, name, last, e, c.last, api.OK)
		days, e := y.Days(c.k)
		wantInt(t, name+": Days", days, e, c.days, api.OK)
		quarter, e := y.Quarter(c.k)
		wantInt(t, name+": Quarter", quarter, e, c.quarter, api.OK)
		at, all, e := y.Part(c.k)
		wantInt(t, name+": Part", at, e, c.at, api.OK)
		wantInt(t, name+": Part of", all, e, period.Nominal(c.freq), api.OK)
	}
}

// P4.3: days out of the year, and what is no day.
func TestIndexWrong(t *testing.T) {
	for _, f := range freqs {
		y := begun(t, f.freq, day(2023, 4, 6))
		for _, d := range []api.Date{day(2023, 4, 5), day(2024, 4, 6), day(2022, 4, 6), day(2023, 3, 31), day(2024, 5, 1), day(1900, 1, 1), day(2199, 12, 31), day(2025, 4, 5)} {
			got, e := y.Index(d)
			wantInt(t, fmt.Sprintf("Index(%v)", d), got, e, 0, api.ErrRange)
		}
		// A wrong day within the year is no day first of all.
		for _, d := range append([]api.Date{day(2023, 6, 31), day(2023, 12, 32), day(2024, 2, 30), day(2024, 0, 3), day(2023, 4, 0)}, noDays...) {
			got, e := y.Index(d)
			wantInt(t, fmt.Sprintf("Index(%v)", d), got, e, 0, api.ErrDate)
		}
	}
}

// P4.3, P4.4, P4.6: periods that a year hasn't.
func TestRange(t *testing.T) {
	for _, f := range freqs {
		y := begun(t, f.freq, day(2023, 4, 6))
		for _, k := range []int{0, -1, -53, y.Count() + 1, y.Count() + 2, 54, 1000, math.MinInt, math.MinInt + 1, math.MaxInt - 1, math.MaxInt} {
			name := fmt.Sprintf("%s, %d", f.name, k)
			first, last, e := y.Span(k)
			wantDay(t, name+": Span", first, e, api.Date{}, api.ErrRange)
			wantDay(t, name+": Span", last, e, api.Date{}, api.ErrRange)
			at, all, e := y.Part(k)
			wantInt(t, name+": Part", at, e, 0, api.ErrRange)
			wantInt(t, name+": Part of", all, e, 0, api.ErrRange)
			days, e := y.Days(k)
			wantInt(t, name+": Days", days, e, 0, api.ErrRange)
			quarter, e := y.Quarter(k)
			wantInt(t, name+": Quarter", quarter, e, 0, api.ErrRange)
			paid, e := y.PayDay(k)
			wantDay(t, name+": PayDay", paid, e, api.Date{}, api.ErrRange)
		}
	}
}

// P4.4: a period more than the whole ones counts as the last one of them.
func TestPart(t *testing.T) {
	every(t, func(t *testing.T, y *period.Year, i int, begins []time.Time) {
		for k := 1; k < len(begins); k++ {
			name := fmt.Sprintf("%s from %v, Part(%d)", freqs[i].name, y.Start(), k)
			at, all, e := y.Part(k)
			wantInt(t, name, at, e, min(k, freqs[i].nominal), api.OK)
			wantInt(t, name, all, e, freqs[i].nominal, api.OK)
		}
	})
}

// workday: the last one from Monday to Friday, day by day.
func workday(x time.Time) api.Date {
	for x.Weekday() == time.Saturday || x.Weekday() == time.Sunday {
		x = x.AddDate(0, 0, -1)
	}
	return told(x)
}

// P4.6: a period's last workday, also where that is ahead of it; and its quarter.
func TestPayDayQuarter(t *testing.T) {
	every(t, func(t *testing.T, y *period.Year, i int, begins []time.Time) {
		for k := 1; k < len(begins); k++ {
			name := fmt.Sprintf("%s from %v, %d", freqs[i].name, y.Start(), k)
			last := begins[k].AddDate(0, 0, -1)
			paid, e := y.PayDay(k)
			wantDay(t, name+": PayDay", paid, e, workday(last), api.OK)
			quarter := 1
			for _, months := range []int{3, 6, 9} {
				if !moved(y.Start(), months).After(last) {
					quarter++
				}
			}
			got, e := y.Quarter(k)
			wantInt(t, name+": Quarter", got, e, quarter, api.OK)
		}
	})
	y := begun(t, api.Weekly, day(2024, 1, 1)) // the last period is a Monday and a Tuesday
	paid, e := y.PayDay(53)
	wantDay(t, "PayDay of a short week", paid, e, day(2024, 12, 31), api.OK)
	y = begun(t, api.Weekly, day(2023, 1, 1)) // the last period is a Sunday alone
	paid, e = y.PayDay(53)
	wantDay(t, "PayDay ahead of its period", paid, e, day(2023, 12, 29), api.OK)
}

// P2: what one year is asked changes neither it nor another one.
func TestApart(t *testing.T) {
	a, b := begun(t, api.Weekly, day(2023, 4, 6)), begun(t, api.Monthly, day(2024, 1, 1))
	for range 2 {
		a.Span(53)
		a.Index(day(2024, 4, 5))
		a.Next()
		a.Quarter(0)
		if a.Freq() != api.Weekly || a.Count() != 53 || a.End() != day(2024, 4, 5) || b.Freq() != api.Monthly || b.Count() != 12 || b.End() != day(2024, 12, 31) {
			t.Error("a year has changed")
		}
	}
}
