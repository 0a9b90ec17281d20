package civil_test

import (
	"math"
	"math/bits"
	"math/rand"
	"testing"
	"time"

	"clepsydra/civil"
)

// last is the last day's number, and -last the first one's.
const last = 1 << 32

// date is a day as people say it.
type date struct{ year, month, day int }

// The last day and the first one. 29398 times 146097 and 7690 are 2^32, so they are 11759200 years from those that are 7690 days from the day 0: 1991-01-21 and 1948-12-12.
var (
	lastDate  = date{11761191, 1, 21}
	firstDate = date{-11757252, 12, 12}
)

// longYear is a leap year by what can be divided by 4, 100 and 400 without remainders of numbers below 0.
func longYear(year int) bool {
	size := uint(year)
	if year < 0 {
		size = -size
	}
	return size%400 == 0 || size%4 == 0 && size%100 != 0
}

// longMonth is the last day of a month, written apart from the program's table.
func longMonth(year, month int) int {
	switch month {
	case 1, 3, 5, 7, 8, 10, 12:
		return 31
	case 4, 6, 9, 11:
		return 30
	case 2:
		if longYear(year) {
			return 29
		}
		return 28
	}
	return 0
}

// next is the day behind one.
func (d date) next() date {
	if d.day < longMonth(d.year, d.month) {
		return date{d.year, d.month, d.day + 1}
	}
	if d.month < 12 {
		return date{d.year, d.month + 1, 1}
	}
	return date{d.year + 1, 1, 1}
}

// edges are numbers that neither a month nor a day has.
func edges() []int {
	return []int{math.MinInt, math.MinInt + 1, -1 << 62, -1 << 61, -1<<32 - 1, -1 << 32, -1<<31 - 1, -13, -1, 0, 32, 1<<31 - 1, 1 << 32, 1<<32 + 1, 1 << 61, 1 << 62, math.MaxInt - 1, math.MaxInt}
}

// isDay holds that a number is that of a day, there and back, and its weekday.
func isDay(t *testing.T, n int, d date, weekday int) {
	t.Helper()
	if got, ok := civil.Day(d.year, d.month, d.day); got != n || !ok {
		t.Fatalf("Day(%d, %d, %d) is %d, %v, not %d", d.year, d.month, d.day, got, ok, n)
	}
	if year, month, day, ok := civil.Date(n); (date{year, month, day}) != d || !ok {
		t.Fatalf("Date(%d) is %d, %d, %d, %v, not %v", n, year, month, day, ok, d)
	}
	if got := civil.Weekday(n); got != weekday {
		t.Fatalf("Weekday(%d) is %d, not %d", n, got, weekday)
	}
}

// isNoDay holds that there is no such day.
func isNoDay(t *testing.T, year, month, day int) {
	t.Helper()
	if n, ok := civil.Day(year, month, day); n != 0 || ok {
		t.Fatalf("Day(%d, %d, %d) is %d, %v", year, month, day, n, ok)
	}
}

// TestLeap is P17.1's Leap: years by 4, 100 and 400, on both sides of 0, and the furthest numbers.
func TestLeap(t *testing.T) {
	for _, c := range []struct {
		year int
		want bool
	}{
		{2024, true}, {2023, false}, {2022, false}, {2021, false}, {2025, false},
		{1900, false}, {2000, true}, {2100, false}, {2200, false}, {2300, false}, {2400, true}, {1600, true}, {1700, false}, {1582, false}, {1500, false},
		{0, true}, {1, false}, {4, true}, {100, false}, {400, true},
		{-1, false}, {-2, false}, {-3, false}, {-4, true}, {-100, false}, {-200, false}, {-396, true}, {-400, true}, {-404, true}, {-500, false},
		{11761191, false}, {11761192, true}, {-11757252, true}, {-11757253, false},
		{1 << 61, true}, {1<<61 + 1, false}, {math.MaxInt, false}, {math.MaxInt - 3, true}, {math.MinInt, true}, {math.MinInt + 1, false}, {math.MinInt + 4, true},
		// The last hundreds of an int: 92233720368547758 hundreds, which 4 doesn't go into.
		{9223372036854775800, false}, {-9223372036854775800, false}, {9223372036854775600, true}, {-9223372036854775600, true},
	} {
		if got := civil.Leap(c.year); got != c.want {
			t.Errorf("Leap(%d) is %v", c.year, got)
		}
	}
	for year := -2000; year <= 4000; year++ {
		if got := civil.Leap(year); got != longYear(year) {
			t.Errorf("Leap(%d) is %v", year, got)
		}
	}
}

// TestDays is P17.1's Days: each month of years of both kinds, and months that aren't.
func TestDays(t *testing.T) {
	common := [...]int{0, 31, 28, 31, 30, 31, 30, 31, 31, 30, 31, 30, 31, 0}
	long := [...]int{0, 31, 29, 31, 30, 31, 30, 31, 31, 30, 31, 30, 31, 0}
	for _, year := range []int{2000, 2024, 0, -4, -400, 1 << 61, math.MinInt} {
		for month, want := range long {
			if got := civil.Days(year, month); got != want {
				t.Errorf("Days(%d, %d) is %d, not %d", year, month, got, want)
			}
		}
	}
	for _, year := range []int{1900, 2023, 2100, 1, -1, -100, math.MinInt + 1, math.MaxInt} {
		for month, want := range common {
			if got := civil.Days(year, month); got != want {
				t.Errorf("Days(%d, %d) is %d, not %d", year, month, got, want)
			}
		}
	}
	for _, year := range []int{2023, 2024, 0, -1, math.MinInt, math.MaxInt} {
		for _, month := range edges() {
			if got := civil.Days(year, month); got != 0 {
				t.Errorf("Days(%d, %d) is %d", year, month, got)
			}
		}
	}
}

// TestKnownDays is P17.1's Day, Date and Weekday of days that are known: the chapter's, the calendar's first one, and both ends.
func TestKnownDays(t *testing.T) {
	for _, c := range []struct {
		n       int
		d       date
		weekday int
	}{
		{0, date{1970, 1, 1}, 3}, {1, date{1970, 1, 2}, 4}, {-1, date{1969, 12, 31}, 2}, {3, date{1970, 1, 4}, 6}, {4, date{1970, 1, 5}, 0}, {-3, date{1969, 12, 29}, 0}, {-4, date{1969, 12, 28}, 6},
		{11017, date{2000, 3, 1}, 2}, {11016, date{2000, 2, 29}, 1}, {11015, date{2000, 2, 28}, 0}, {10957, date{2000, 1, 1}, 5}, {10956, date{1999, 12, 31}, 4},
		{-25508, date{1900, 3, 1}, 3}, {-25509, date{1900, 2, 28}, 2},
		{364, date{1970, 12, 31}, 3}, {365, date{1971, 1, 1}, 4}, {1094, date{1972, 12, 30}, 5}, {1095, date{1972, 12, 31}, 6}, {1096, date{1973, 1, 1}, 0},
		{-141427, date{1582, 10, 15}, 4}, {-141428, date{1582, 10, 14}, 3},
		{-719162, date{1, 1, 1}, 0}, {-719163, date{0, 12, 31}, 6}, {-719468, date{0, 3, 1}, 2}, {-719469, date{0, 2, 29}, 1}, {-719528, date{0, 1, 1}, 5}, {-719529, date{-1, 12, 31}, 4},
		{146097, date{2370, 1, 1}, 3}, {-146097, date{1570, 1, 1}, 3},
		{last, lastDate, 0}, {last - 20, date{11761191, 1, 1}, 1}, {last - 21, date{11761190, 12, 31}, 0},
		{-last, firstDate, 6}, {-last + 19, date{-11757252, 12, 31}, 4}, {-last + 20, date{-11757251, 1, 1}, 5},
	} {
		isDay(t, c.n, c.d, c.weekday)
	}
}

// TestNoDays is P17.1's Day, where there is no such day: months and days that aren't, and what is beyond the last day or the first one.
func TestNoDays(t *testing.T) {
	for _, d := range []date{
		{1900, 2, 29}, {2023, 2, 29}, {2024, 2, 30}, {2100, 2, 29}, {-100, 2, 29}, {1, 2, 29}, {2000, 4, 31}, {2000, 6, 31}, {2000, 9, 31}, {2000, 11, 31}, {2000, 1, 32}, {2000, 12, 32},
		{2000, 1, 0}, {2000, 1, -1}, {2000, 3, 0}, {2000, 0, 1}, {2000, 0, 0}, {2000, 13, 1}, {2000, -1, 1},
		// A day or more behind the last day, and ahead of the first one.
		{11761191, 1, 22}, {11761191, 2, 1}, {11761191, 12, 31}, {11761192, 1, 1}, {-11757252, 12, 11}, {-11757252, 11, 30}, {-11757252, 1, 1}, {-11757253, 12, 31},
		// The years that are named, and those behind them.
		{11767033, 1, 1}, {11767034, 1, 1}, {-11767033, 12, 31}, {-11767034, 12, 31}, {1 << 24, 1, 1}, {-1 << 24, 1, 1},
	} {
		isNoDay(t, d.year, d.month, d.day)
	}
	for _, x := range edges() {
		isNoDay(t, 2000, x, 1)
		isNoDay(t, 2000, 1, x)
		isNoDay(t, 2000, x, x)
		if x < -13 || x > 32 { // the others are years
			isNoDay(t, x, 1, 1)
			isNoDay(t, x, 12, 31)
			isNoDay(t, x, 2, 29)
		}
	}
}

// TestFarYears is P17.1's Day of years whose days, counted without a bound, are near a multiple of 2^64: in an int they would be near 0.
func TestFarYears(t *testing.T) {
	for times := range uint64(182) {
		years, _ := bits.Div64((times+1)*400, 0, 146097)
		for off := -3; off <= 3; off++ {
			isNoDay(t, int(years)+1970+off, 6, 15)
			isNoDay(t, 1970+off-int(years), 6, 15)
		}
	}
}

// TestBeyond is P17.1's Date of numbers that are no day's: noughts, and false; Weekday is 0 of them, since no sentence names what it is.
func TestBeyond(t *testing.T) {
	for _, n := range []int{last + 1, last + 2, last + 3, last + 7, -last - 1, -last - 2, -last - 7, 1 << 33, -1 << 33, 1 << 42, -1 << 42, 1 << 61, -1 << 61, math.MaxInt - 3, math.MaxInt, math.MinInt, math.MinInt + 1} {
		if year, month, day, ok := civil.Date(n); year != 0 || month != 0 || day != 0 || ok {
			t.Errorf("Date(%d) is %d, %d, %d, %v", n, year, month, day, ok)
		}
		if got := civil.Weekday(n); got != 0 {
			t.Errorf("Weekday(%d) is %d", n, got)
		}
	}
}

// walk goes from day to day, by the calendar's rule alone, and holds each one.
func walk(t *testing.T, from int, d date, weekday, days int) (int, date) {
	t.Helper()
	n := from
	for ; n < from+days; n++ {
		isDay(t, n, d, weekday)
		d, weekday = d.next(), (weekday+1)%7
	}
	return n, d
}

// TestDayByDay is P17.1 and P17.2: there and back, and the next number's day is the next day, over cycles of 400 years on both sides of 0 and of 1970, and at both ends.
func TestDayByDay(t *testing.T) {
	const cycle = 146097
	n, d := walk(t, -719528-2*cycle, date{-800, 1, 1}, 5, 9*cycle)
	if n != -719528+7*cycle || d != (date{2800, 1, 1}) {
		t.Fatalf("the walk ends at %d, %v", n, d)
	}
	walk(t, -last, firstDate, 6, cycle)
	// 29397 cycles, and 7690 days of another one, are ahead of that day.
	n, d = walk(t, last-cycle, date{11760791, 1, 21}, 0, cycle)
	if n != last || d != lastDate {
		t.Fatalf("the walk ends at %d, %v", n, d)
	}
}

// TestFirstDays is P17.1 and P17.2 at years' first days and the ones ahead of them, through all years, forth and back.
func TestFirstDays(t *testing.T) {
	n, year := 0, 1970
	for ; n <= last; year++ {
		twoDays(t, n, year)
		n += yearDays(year)
	}
	if year != lastDate.year+1 {
		t.Fatalf("the last year is %d", year-1)
	}
	n, year = 0, 1970
	for ; n > -last; year-- {
		twoDays(t, n, year)
		n -= yearDays(year - 1)
	}
	if year != firstDate.year {
		t.Fatalf("the first year is %d", year)
	}
}

func yearDays(year int) int {
	if longYear(year) {
		return 366
	}
	return 365
}

// twoDays holds a year's first day and the one ahead of it, of one year in 7: all of them would take too long.
func twoDays(t *testing.T, n, year int) {
	if year%7 != 0 {
		return
	}
	weekday := ((n+3)%7 + 7) % 7
	isDay(t, n, date{year, 1, 1}, weekday)
	isDay(t, n-1, date{year - 1, 12, 31}, (weekday+6)%7)
}

// TestAllDates is P17.1 and P17.2 the other way round: of whatever months and days there is a number just of those that are, and its date is the day.
func TestAllDates(t *testing.T) {
	var years []int
	for year := -10; year <= 410; year++ {
		years = append(years, year, year+1800, 11760600+year, -11757000+year)
	}
	for _, year := range years {
		for month := -1; month <= 14; month++ {
			for day := -2; day <= 33; day++ {
				d := date{year, month, day}
				n, ok := civil.Day(year, month, day)
				if ok != isOne(d) || !ok && n != 0 {
					t.Fatalf("Day(%v) is %d, %v", d, n, ok)
				}
				if y, m, k, _ := civil.Date(n); ok && (date{y, m, k}) != d {
					t.Fatalf("Date(%d) is %d, %d, %d, not %v", n, y, m, k, d)
				}
			}
		}
	}
}

// isOne: whether there is such a day, from the first one to the last one.
func isOne(d date) bool {
	return d.day >= 1 && d.day <= longMonth(d.year, d.month) && !d.less(firstDate) && !lastDate.less(d)
}

func (d date) less(e date) bool {
	if d.year != e.year {
		return d.year < e.year
	}
	if d.month != e.month {
		return d.month < e.month
	}
	return d.day < e.day
}

// TestAgainstLibrary is P17.1 of days anywhere, against the library's calendar, and P17.2 of the day behind each.
func TestAgainstLibrary(t *testing.T) {
	r := rand.New(rand.NewSource(17))
	for range 200000 {
		n := r.Intn(2*last) - last
		x := time.Unix(int64(n)*86400, 0).UTC()
		d := date{x.Year(), int(x.Month()), x.Day()}
		weekday := (int(x.Weekday()) + 6) % 7
		isDay(t, n, d, weekday)
		isDay(t, n+1, d.next(), (weekday+1)%7)
	}
}
