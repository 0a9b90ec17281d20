package leap_test

import (
	"cmp"
	"math"
	"math/rand"
	"slices"
	"testing"
	"time"

	"clepsydra/api"
	"clepsydra/leap"
)

const (
	furthest = 1 << 42
	day      = 86400
	lastDay  = 12725828 // at the end of no later one is a leap: 12725829 times 86400, and 2176, are 2^40
)

// turn is a day, by its number, that has a second more (1) or less (-1) than others.
type turn struct{ day, by int }

// entries are the leap table of some turns.
func entries(turns ...turn) []api.Leap {
	var list []api.Leap
	off := 0
	for _, x := range turns {
		off += x.by
		list = append(list, api.Leap{At: (x.day+1)*day + off, Off: off})
	}
	return list
}

// row is n turns of one sort, some days apart.
func row(n, from, apart, by int) []turn {
	var list []turn
	for i := range n {
		list = append(list, turn{from + i*apart, by})
	}
	return list
}

// known are the 27 leap seconds that there were from 1972 to 2016: those at the ends of June, and those at the ends of December.
func known() []turn {
	var list []turn
	end := func(month time.Month, years ...int) {
		for _, year := range years {
			list = append(list, turn{int(time.Date(year, month+1, 1, 0, 0, 0, 0, time.UTC).Unix()/day) - 1, 1})
		}
	}
	end(time.June, 1972, 1981, 1982, 1983, 1985, 1992, 1993, 1994, 1997, 2012, 2015)
	end(time.December, 1972, 1973, 1974, 1975, 1976, 1977, 1978, 1979, 1987, 1989, 1990, 1995, 1998, 2005, 2008, 2016)
	slices.SortFunc(list, func(a, b turn) int { return a.day - b.day })
	return list
}

// tables are good ones: none, the chapter's, the first and the last ones that can be, those of days one right behind the other, and any.
func tables() [][]turn {
	list := [][]turn{
		nil, {{0, 1}}, {{0, -1}}, {{-1, 1}}, {{lastDay, 1}}, {{lastDay, -1}}, known(),
		{{5, 1}, {6, 1}}, {{5, -1}, {6, 1}}, {{5, 1}, {7, -1}}, {{5, -1}, {7, -1}}, {{-1, 1}, {0, 1}}, {{-1, 1}, {1, -1}, {2, 1}, {4, -1}, {6, -1}, {7, 1}},
		row(32, -1, 1, 1), row(32, 0, 2, -1), row(32, lastDay-31, 1, 1), row(32, lastDay-62, 2, -1), row(32, 0, lastDay/32, 1), row(31, 100, lastDay/32, -1),
	}
	r := rand.New(rand.NewSource(18))
	for range 12 {
		var some []turn
		n := r.Intn(10000)
		for range r.Intn(33) {
			some = append(some, turn{n, 2*r.Intn(2) - 1})
			n += 2 + r.Intn(1<<(1+r.Intn(18)))
		}
		list = append(list, some)
	}
	return list
}

// noTables are such as aren't good, one by one.
func noTables() [][]api.Leap {
	list := [][]api.Leap{
		{{}}, {{At: 86400, Off: 1}}, {{At: 86400, Off: -1}}, {{At: 86402, Off: 1}}, {{At: 86398, Off: -1}}, {{At: 86399, Off: 1}}, {{At: 86401, Off: -1}}, {{At: 0, Off: 1}}, {{At: 43201, Off: 1}},
		{{At: 86400, Off: 0}}, {{At: 86402, Off: 2}}, {{At: 86398, Off: -2}}, {{At: -1, Off: -1}}, {{At: 1 - day, Off: 1}},
		{{At: (lastDay+2)*day + 1, Off: 1}}, {{At: (lastDay+2)*day - 1, Off: -1}}, {{At: 1 << 42, Off: 1}},
		{{At: math.MinInt, Off: 1}}, {{At: math.MaxInt, Off: -1}}, {{At: math.MinInt, Off: math.MinInt}}, {{At: math.MaxInt, Off: math.MaxInt}}, {{At: math.MinInt, Off: math.MaxInt}}, {{At: day, Off: math.MinInt}},
		// The first entry is good, the other one isn't, though both are at the ends of days: too near, of no other offset, of one too far away, or ahead.
		{{At: 86401, Off: 1}, {At: 172800, Off: 0}}, {{At: 86399, Off: -1}, {At: 172798, Off: -2}}, {{At: 86401, Off: 1}, {At: 172801, Off: 1}}, {{At: 86401, Off: 1}, {At: 172803, Off: 3}}, {{At: 86401, Off: 1}, {At: 259199, Off: -1}},
		{{At: 86401, Off: 1}, {At: 86402, Off: 2}}, {{At: 864001, Off: 1}, {At: 86402, Off: 2}}, {{At: 86401, Off: 1}, {At: 86401, Off: 1}},
		// Leap tables whose last, middle or first entry is not at a day's end.
		{{At: 86401, Off: 1}, {At: 172803, Off: 2}}, {{At: 86401, Off: 1}, {At: 172801, Off: 2}}, {{At: 86401, Off: 1}, {At: 200000, Off: 0}, {At: 345601, Off: 1}}, {{At: 86400, Off: 1}, {At: 172802, Off: 2}},
		entries(row(33, -1, 1, 1)...), entries(row(33, 0, 2, -1)...), entries(row(2000, 0, 3, 1)...), make([]api.Leap, 32),
	}
	for _, x := range tables() {
		for i := range x {
			other := entries(x...)
			other[i].At += 1 + i*1000
			list = append(list, other)
		}
	}
	return list
}

// numbers are such as counts, and fields of labels, may be wrong by.
func numbers() []int {
	return []int{math.MinInt, math.MinInt + 1, -1 << 62, -1<<61 - 1, -1 << 61, -1 << 60, -1<<42 - 1, -1 << 42, -1 << 40, -day, -61, -60, -24, -1, 0, 1, 23, 24, 59, 60, 61, 3600, day, 1 << 40, 1 << 42, 1<<42 + 1, 1 << 58, 1 << 60, 1 << 61, 1<<61 + 1, 1 << 62, math.MaxInt - 1, math.MaxInt}
}

// named is the label of seconds, counted without leaps, by the library's calendar.
func named(seconds int) api.Label {
	x := time.Unix(int64(seconds), 0).UTC()
	return api.Label{Year: x.Year(), Month: int(x.Month()), Day: x.Day(), Hour: x.Hour(), Minute: x.Minute(), Second: x.Second()}
}

// length is how many seconds a day has.
func length(turns []turn, n int) int {
	for _, x := range turns {
		if x.day == n {
			return day + x.by
		}
	}
	return day
}

// began is the count of a day's first second: days ahead of it are as long as they are.
func began(turns []turn, n int) int {
	c := n * day
	for _, x := range turns {
		if x.day < n {
			c += x.by
		}
	}
	return c
}

// inDay is the label of a day's second, of which the last one may be a second more.
func inDay(n, second int) api.Label {
	if second == day {
		l := named(n*day + day - 1)
		l.Second++
		return l
	}
	return named(n*day + second)
}

// modelLabel is the label of a count, by how long days are.
func modelLabel(turns []turn, c int) api.Label {
	// So far apart are a count's day and that of the same seconds at most.
	n := c/day + 2
	for began(turns, n) > c {
		n--
	}
	return inDay(n, c-began(turns, n))
}

// compare is how labels stand, by year, month, day, hour, minute and second.
func compare(a, b api.Label) int {
	return slices.Compare([]int{a.Year, a.Month, a.Day, a.Hour, a.Minute, a.Second}, []int{b.Year, b.Month, b.Day, b.Hour, b.Minute, b.Second})
}

// isLabel holds that a label is that of a count, there and back.
func isLabel(t *testing.T, list []api.Leap, c int, l api.Label) {
	t.Helper()
	if got, e := leap.ToLabel(list, c); got != l || e != api.OK {
		t.Fatalf("by %v ToLabel(%d) is %v, %d, not %v", list, c, got, e, l)
	}
	if got, e := leap.ToCount(list, l); got != c || e != api.OK {
		t.Fatalf("by %v ToCount(%v) is %d, %d, not %d", list, l, got, e, c)
	}
}

// isNoCount holds that a number is none.
func isNoCount(t *testing.T, list []api.Leap, c int, want api.Errno) {
	t.Helper()
	if got, e := leap.ToLabel(list, c); got != (api.Label{}) || e != want {
		t.Fatalf("by %v ToLabel(%d) is %v, %d, not %d", list, c, got, e, want)
	}
}

// isNoLabel holds that no count has a label.
func isNoLabel(t *testing.T, list []api.Leap, l api.Label, want api.Errno) {
	t.Helper()
	if got, e := leap.ToCount(list, l); got != 0 || e != want {
		t.Fatalf("by %v ToCount(%v) is %d, %d, not %d", list, l, got, e, want)
	}
}

// TestExamples are the chapter's examples, the first and the last leap second that there was, and one ahead of all counted days.
func TestExamples(t *testing.T) {
	more, less, first, all := entries(turn{0, 1}), entries(turn{0, -1}), entries(turn{-1, 1}), entries(known()...)
	if !slices.Equal(more, []api.Leap{{At: 86401, Off: 1}}) || !slices.Equal(less, []api.Leap{{At: 86399, Off: -1}}) || all[0].At != 78796801 || all[26] != (api.Leap{At: 1483228827, Off: 27}) {
		t.Fatalf("the tests' own tables are %v, %v, %v", more, less, all)
	}
	for _, x := range []struct {
		list []api.Leap
		c    int
		l    api.Label
	}{
		{more, 86399, api.Label{Year: 1970, Month: 1, Day: 1, Hour: 23, Minute: 59, Second: 59}}, {more, 86400, api.Label{Year: 1970, Month: 1, Day: 1, Hour: 23, Minute: 59, Second: 60}}, {more, 86401, api.Label{Year: 1970, Month: 1, Day: 2}},
		{less, 86398, api.Label{Year: 1970, Month: 1, Day: 1, Hour: 23, Minute: 59, Second: 58}}, {less, 86399, api.Label{Year: 1970, Month: 1, Day: 2}},
		{first, -1, api.Label{Year: 1969, Month: 12, Day: 31, Hour: 23, Minute: 59, Second: 59}}, {first, 0, api.Label{Year: 1969, Month: 12, Day: 31, Hour: 23, Minute: 59, Second: 60}}, {first, 1, api.Label{Year: 1970, Month: 1, Day: 1}},
		{all, 78796799, api.Label{Year: 1972, Month: 6, Day: 30, Hour: 23, Minute: 59, Second: 59}}, {all, 78796800, api.Label{Year: 1972, Month: 6, Day: 30, Hour: 23, Minute: 59, Second: 60}}, {all, 78796801, api.Label{Year: 1972, Month: 7, Day: 1}},
		{all, 1483228825, api.Label{Year: 2016, Month: 12, Day: 31, Hour: 23, Minute: 59, Second: 59}}, {all, 1483228826, api.Label{Year: 2016, Month: 12, Day: 31, Hour: 23, Minute: 59, Second: 60}}, {all, 1483228827, api.Label{Year: 2017, Month: 1, Day: 1}},
		{nil, 0, api.Label{Year: 1970, Month: 1, Day: 1}}, {nil, -1, api.Label{Year: 1969, Month: 12, Day: 31, Hour: 23, Minute: 59, Second: 59}}, {nil, 951827696, api.Label{Year: 2000, Month: 2, Day: 29, Hour: 12, Minute: 34, Second: 56}},
	} {
		isLabel(t, x.list, x.c, x.l)
	}
	isNoLabel(t, less, api.Label{Year: 1970, Month: 1, Day: 1, Hour: 23, Minute: 59, Second: 59}, api.ErrLabel)
}

// TestGood is P18.1's Good.
func TestGood(t *testing.T) {
	for _, x := range tables() {
		if list := entries(x...); !leap.Good(list) {
			t.Errorf("Good(%v) is false", list)
		}
	}
	if !leap.Good([]api.Leap{}) {
		t.Error("Good of an empty list is false")
	}
	for _, list := range noTables() {
		if leap.Good(list) {
			t.Errorf("Good(%v) is true", list)
		}
	}
}

// TestGoodEverywhere is P18.1's Good of all seconds around ends of days, and of all offsets.
func TestGoodEverywhere(t *testing.T) {
	for _, end := range []int{0, day, 5 * day, (lastDay + 1) * day, (lastDay + 2) * day} {
		for at := end - 70; at <= end+70; at++ {
			for off := -3; off <= 3; off++ {
				want := at >= 0 && at <= 1<<40 && (off == 1 && at == end+1 || off == -1 && at == end-1)
				if got := leap.Good([]api.Leap{{At: at, Off: off}}); got != want {
					t.Fatalf("Good of At %d, Off %d is %v", at, off, got)
				}
			}
		}
	}
}

// TestBadTable is P18.1's ErrTable, which goes ahead of ErrLabel.
func TestBadTable(t *testing.T) {
	for _, list := range noTables() {
		for _, c := range numbers() {
			isNoCount(t, list, c, api.ErrTable)
			isNoLabel(t, list, api.Label{Year: 1970, Month: 1, Day: 1, Hour: c}, api.ErrTable)
		}
		isNoLabel(t, list, api.Label{}, api.ErrTable)
		isNoLabel(t, list, api.Label{Year: 1970, Month: 1, Day: 1}, api.ErrTable)
		isNoLabel(t, list, api.Label{Year: 1970, Month: 1, Day: 1, Hour: 23, Minute: 59, Second: 60}, api.ErrTable)
	}
}

// walk goes from second to second, by how long days are alone, from some seconds ahead of a day's end until as many behind it: P18.1, P18.2, and of labels one right behind the other P18.3.
func walk(t *testing.T, turns []turn, n, seconds int) {
	t.Helper()
	list := entries(turns...)
	second := length(turns, n) - seconds
	c := began(turns, n) + second
	before, _ := leap.ToLabel(list, c-1)
	for range 2 * seconds {
		l := inDay(n, second)
		isLabel(t, list, c, l)
		if compare(before, l) >= 0 {
			t.Fatalf("by %v the label of %d, %v, isn't behind that of the count ahead, %v", list, c, l, before)
		}
		before = l
		c++
		second++
		if second == length(turns, n) {
			n, second = n+1, 0
		}
	}
}

// TestWalk is P18.1 to P18.3 at the end of each day that is longer or shorter, of those beside it, and of two that are far from all.
func TestWalk(t *testing.T) {
	for _, turns := range tables() {
		for _, x := range turns {
			for n := x.day - 1; n <= x.day+1; n++ {
				walk(t, turns, n, 70)
			}
		}
		walk(t, turns, -1, 70)
		walk(t, turns, -40000000, 70)
		walk(t, turns, 40000000, 70)
	}
}

// TestWalkDays is the same of whole days, each second of them.
func TestWalkDays(t *testing.T) {
	for _, turns := range [][]turn{nil, {{0, 1}}, {{0, -1}}, {{-1, 1}, {0, 1}, {2, -1}}} {
		walk(t, turns, 0, day-1)
	}
}

// TestAnyCount is P18.1 and P18.2 of counts anywhere, and P18.3 of any two.
func TestAnyCount(t *testing.T) {
	r := rand.New(rand.NewSource(181))
	for _, turns := range tables() {
		list := entries(turns...)
		for range 400 {
			// Near to leaps, too, and within the reach of tables, where counts would else seldom be.
			a, b := r.Intn(2*furthest+1)-furthest, r.Intn(1<<(1+r.Intn(42)))
			if len(turns) > 0 {
				a = max(list[r.Intn(len(list))].At-3*day+r.Intn(6*day), -furthest)
			}
			isLabel(t, list, a, modelLabel(turns, a))
			isLabel(t, list, b, modelLabel(turns, b))
			if got := compare(modelLabel(turns, a), modelLabel(turns, b)); got != cmp.Compare(a, b) {
				t.Fatalf("by %v the labels of %d and %d stand as %d", list, a, b, got)
			}
		}
	}
}

// TestOneSecond is P18.3's second half: without leaps between, the labels of two counts that part by one part by one second.
func TestOneSecond(t *testing.T) {
	r := rand.New(rand.NewSource(183))
	for _, turns := range tables() {
		list := entries(turns...)
		for range 1000 {
			c := r.Intn(2*furthest) - furthest
			if slices.ContainsFunc(list, func(x api.Leap) bool { return c == x.At-2 || c == x.At-1 }) {
				continue
			}
			a, _ := leap.ToLabel(list, c)
			b, _ := leap.ToLabel(list, c+1)
			if got := evenSeconds(b) - evenSeconds(a); got != 1 {
				t.Fatalf("by %v the labels of %d and the next count, %v and %v, part by %d", list, c, a, b, got)
			}
		}
	}
}

// evenSeconds are those of a label, counted without leaps.
func evenSeconds(l api.Label) int {
	return int(time.Date(l.Year, time.Month(l.Month), l.Day, l.Hour, l.Minute, l.Second, 0, time.UTC).Unix())
}

// TestEnds is P18.1 at the first count and the last one, by all tables: what is beyond them is none, nor has it a label.
func TestEnds(t *testing.T) {
	for _, turns := range tables() {
		list := entries(turns...)
		off := 0
		for _, x := range turns {
			off += x.by
		}
		for i := range 70 {
			isLabel(t, list, furthest-i, named(furthest-i-off))
			isLabel(t, list, i-furthest, named(i-furthest))
			isNoCount(t, list, furthest+1+i, api.ErrLabel)
			isNoCount(t, list, -furthest-1-i, api.ErrLabel)
			isNoLabel(t, list, named(furthest+1+i-off), api.ErrLabel)
			isNoLabel(t, list, named(-furthest-1-i), api.ErrLabel)
		}
		for _, c := range numbers() {
			if c > furthest || c < -furthest {
				isNoCount(t, list, c, api.ErrLabel)
			}
		}
	}
}

// TestLabelsOfDays is P18.1 and P18.2 the other way round: of all hours, minutes and seconds, and some that aren't, those of the day have its counts, each another one, and the others have none.
func TestLabelsOfDays(t *testing.T) {
	turns := []turn{{-1, 1}, {0, 1}, {2, -1}}
	list := entries(turns...)
	for n := -2; n <= 3; n++ {
		date := named(n * day)
		counts := map[api.Label]int{}
		for second := range length(turns, n) {
			counts[inDay(n, second)] = began(turns, n) + second
		}
		if len(counts) != length(turns, n) {
			t.Fatalf("the day %d has %d labels", n, len(counts))
		}
		for hour := -1; hour <= 24; hour++ {
			for minute := -1; minute <= 60; minute++ {
				for second := -1; second <= 61; second++ {
					date.Hour, date.Minute, date.Second = hour, minute, second
					if c, is := counts[date]; is {
						isLabel(t, list, c, date)
					} else {
						isNoLabel(t, list, date, api.ErrLabel)
					}
				}
			}
		}
	}
}

// TestNoLabels is P18.1's ErrLabel: each field of labels that are, put to whatever it can't be, also where the seconds in all are those of another label, or would wrap to them.
func TestNoLabels(t *testing.T) {
	more := entries(turn{0, 1})
	for _, list := range [][]api.Leap{nil, more, entries(turn{0, -1}), entries(known()...)} {
		for _, x := range numbers() {
			l := api.Label{Year: 1970, Month: 1, Day: 1}
			if x < 0 || x > 23 {
				l.Hour = x
				isNoLabel(t, list, l, api.ErrLabel)
				l.Hour = 0
			}
			if x < 0 || x > 59 {
				l.Minute = x
				isNoLabel(t, list, l, api.ErrLabel)
				l.Minute, l.Second = 0, x
				isNoLabel(t, list, l, api.ErrLabel)
				l.Minute = -x
				isNoLabel(t, list, l, api.ErrLabel)
				l.Hour, l.Minute, l.Second = x, -x, -x
				isNoLabel(t, list, l, api.ErrLabel)
			}
			if x < 1 || x > 31 {
				isNoLabel(t, list, api.Label{Year: 1970, Month: x, Day: 1}, api.ErrLabel)
				isNoLabel(t, list, api.Label{Year: 1970, Month: 1, Day: x}, api.ErrLabel)
				isNoLabel(t, list, api.Label{Year: x, Month: x, Day: x, Hour: x, Minute: x, Second: x}, api.ErrLabel)
			}
			if x < -140000 || x > 140000 {
				isNoLabel(t, list, api.Label{Year: x, Month: 1, Day: 1}, api.ErrLabel)
			}
		}
		for _, l := range []api.Label{
			{}, {Year: 1970}, {Year: 1970, Month: 1}, {Month: 1}, {Day: 1}, {Year: 1970, Month: 2, Day: 29}, {Year: 1900, Month: 2, Day: 29}, {Year: 1970, Month: 4, Day: 31}, {Year: 1970, Month: 13, Day: 1},
			{Year: 1970, Month: 1, Day: 1, Hour: 24}, {Year: 1970, Month: 1, Day: 1, Minute: 60}, {Year: 1970, Month: 1, Day: 1, Second: 60}, {Year: 1970, Month: 1, Day: 1, Second: 86400}, {Year: 1970, Month: 1, Day: 1, Hour: 22, Minute: 59, Second: 60},
			{Year: 1970, Month: 1, Day: 1, Hour: 23, Minute: 59, Second: 61}, {Year: 1970, Month: 1, Day: 1, Hour: 23, Minute: 60}, {Year: 1970, Month: 1, Day: 2, Second: -1}, {Year: 1970, Month: 1, Day: 2, Hour: -1, Minute: 59, Second: 60}, {Year: 1970, Month: 1, Day: 2, Hour: 23, Minute: 59, Second: 60},
		} {
			isNoLabel(t, list, l, api.ErrLabel)
		}
	}
	isLabel(t, more, 86400, api.Label{Year: 1970, Month: 1, Day: 1, Hour: 23, Minute: 59, Second: 60})
	isNoLabel(t, nil, api.Label{Year: 1970, Month: 1, Day: 1, Hour: 23, Minute: 59, Second: 60}, api.ErrLabel)
}

// TestSecondsMore is P18.1 and P18.2 of 23:59:60 and 23:59:59 of each day of a year and a half: the one has a count where the day is longer, the other one unless it is shorter.
func TestSecondsMore(t *testing.T) {
	turns := []turn{{10, 1}, {11, 1}, {30, -1}, {180, 1}, {181, 1}, {182, 1}, {364, -1}, {366, -1}, {500, 1}}
	list := entries(turns...)
	for n := -20; n <= 550; n++ {
		long := length(turns, n)
		for second := day - 1; second <= day; second++ {
			if second < long {
				isLabel(t, list, began(turns, n)+second, inDay(n, second))
			} else {
				isNoLabel(t, list, inDay(n, second), api.ErrLabel)
			}
		}
	}
}

// isNext holds Next against the list gone over.
func isNext(t *testing.T, list []api.Leap, c int) {
	t.Helper()
	var want api.Leap
	is := false
	for i := len(list) - 1; i >= 0; i-- {
		if list[i].At > c {
			want, is = list[i], true
		}
	}
	if got, ok := leap.Next(list, c); got != want || ok != is {
		t.Fatalf("Next(%v, %d) is %v, %v, not %v, %v", list, c, got, ok, want, is)
	}
}

// TestNext is P18.1's Next: of good tables, and of entries that are no leap table, whose first one isn't always the nearest.
func TestNext(t *testing.T) {
	lists := append(noTables(), nil, []api.Leap{})
	for _, turns := range tables() {
		lists = append(lists, entries(turns...))
	}
	lists = append(lists, []api.Leap{{At: 9, Off: 4}, {At: 5, Off: 7}, {At: 9, Off: 3}, {At: -3, Off: 1}, {At: 20}}, []api.Leap{{At: math.MaxInt, Off: 1}, {At: 3, Off: 2}, {At: math.MinInt, Off: 3}}, []api.Leap{{At: math.MinInt, Off: 3}, {At: 0, Off: 9}})
	for _, list := range lists {
		for _, c := range numbers() {
			isNext(t, list, c)
		}
		for _, x := range list[:min(len(list), 40)] {
			for c := max(x.At, math.MinInt+2) - 2; c <= min(x.At, math.MaxInt-2)+1; c++ {
				isNext(t, list, c)
			}
		}
	}
}

// TestNextByHand is P18.1's Next of entries that are told by hand.
func TestNextByHand(t *testing.T) {
	good := []api.Leap{{At: 86401, Off: 1}, {At: 259200, Off: 0}}
	// Neither of these is a leap table: the first entry that is above is told, though a nearer one stands behind it.
	turned, single := []api.Leap{{At: 500, Off: 7}, {At: 3, Off: 9}}, []api.Leap{{At: -4, Off: 33}}
	for _, x := range []struct {
		list []api.Leap
		c    int
		want api.Leap
		is   bool
	}{
		{good, math.MinInt, good[0], true}, {good, 0, good[0], true}, {good, 86400, good[0], true}, {good, 86401, good[1], true}, {good, 259199, good[1], true}, {good, 259200, api.Leap{}, false}, {good, math.MaxInt, api.Leap{}, false},
		{turned, 0, turned[0], true}, {turned, 3, turned[0], true}, {turned, 499, turned[0], true}, {turned, 500, api.Leap{}, false}, {single, -5, single[0], true}, {single, -4, api.Leap{}, false}, {nil, math.MinInt, api.Leap{}, false},
	} {
		if got, is := leap.Next(x.list, x.c); got != x.want || is != x.is {
			t.Errorf("Next(%v, %d) is %v, %v", x.list, x.c, got, is)
		}
	}
}

// TestStays is P18.4: a table, and the room behind it, stay as they are, and what is written into it behind a call isn't seen.
func TestStays(t *testing.T) {
	for _, list := range [][]api.Leap{nil, entries(known()...), entries(turn{0, 1}, turn{1, 1}), {{At: 86400, Off: 1}}, {{At: 900, Off: 5}, {At: 7, Off: 6}}} {
		room := append(slices.Clone(list), api.Leap{At: 4, Off: 5}, api.Leap{At: 6, Off: 7})
		want := slices.Clone(room)
		given := room[:len(list)]
		good := leap.Good(given)
		l, e := leap.ToLabel(given, 90000)
		c, ec := leap.ToCount(given, api.Label{Year: 1970, Month: 1, Day: 2, Hour: 1})
		x, is := leap.Next(given, 5)
		if !slices.Equal(room, want) {
			t.Errorf("the table is %v, was %v", room, want)
		}
		for i := range room {
			room[i] = api.Leap{At: -9, Off: -9}
		}
		// Another table between shows what was kept of this one.
		other, eo := leap.ToLabel(entries(turn{0, -1}), 86399)
		if other != (api.Label{Year: 1970, Month: 1, Day: 2}) || eo != api.OK {
			t.Errorf("behind %v another table tells %v, %d", list, other, eo)
		}
		l2, e2 := leap.ToLabel(list, 90000)
		c2, ec2 := leap.ToCount(list, api.Label{Year: 1970, Month: 1, Day: 2, Hour: 1})
		x2, is2 := leap.Next(list, 5)
		if good != leap.Good(list) || l != l2 || e != e2 || c != c2 || ec != ec2 || x != x2 || is != is2 {
			t.Errorf("of %v the answers were %v, %v, %d, %d, %d, %v, %v and are %v, %d, %d, %d, %v, %v", list, good, l, e, c, ec, x, is, l2, e2, c2, ec2, x2, is2)
		}
	}
}
