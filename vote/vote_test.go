package vote_test

import (
	"math"
	"math/rand"
	"slices"
	"testing"

	"clepsydra/api"
	"clepsydra/leap"
	"clepsydra/vote"
)

const day = 86400

// table is a good one: at the end of each of some days, by their numbers, which rise, a second more, or less where the number is told as its complement.
func table(days ...int) []api.Leap {
	var list []api.Leap
	off := 0
	for _, n := range days {
		if n < 0 {
			n, off = ^n, off-1
		} else {
			off++
		}
		list = append(list, api.Leap{At: (n+1)*day + off, Off: off})
	}
	return list
}

// row are the days of n entries, one right behind the other.
func row(n int) []int {
	var days []int
	for i := range n {
		days = append(days, i)
	}
	return days
}

// goods are good tables, no two the same, that part by a little: none, beginnings of others, another first or last entry, more or less at the same day's end, and the longest.
func goods() [][]api.Leap {
	long, other := row(32), row(32)
	other[31] = ^32
	return [][]api.Leap{nil, table(0), table(^0), table(1), table(0, 1), table(0, ^2), table(^0, 2), table(^0, ^2), table(0, 2), table(10), table(0, 1, 2), table(row(31)...), table(long...), table(other...)}
}

// bads are lists that aren't good tables: leap tables that are not at ends of days, and such as aren't even these (among them two ends of days that are a second too near).
func bads() [][]api.Leap {
	return [][]api.Leap{
		{{At: 5, Off: 1}}, {{At: 86400, Off: 1}}, {{At: 86401, Off: 1}, {At: 200000, Off: 2}}, {{At: 86402, Off: 2}}, {{At: 86401, Off: -1}}, {{}}, {{At: 86401, Off: 1}, {At: 86401, Off: 1}}, table(0, ^1),
		{{At: 1 - day, Off: 1}}, {{At: math.MinInt, Off: math.MinInt}}, {{At: math.MaxInt, Off: math.MaxInt}}, table(row(33)...), table(row(500)...),
	}
}

// anyTables are all of these.
func anyTables() [][]api.Leap { return append(goods(), bads()...) }

// TestTables holds that the tests' own tables are what they should be: each good or not, and none of them twice.
func TestTables(t *testing.T) {
	if !slices.Equal(table(0, ^2), []api.Leap{{At: 86401, Off: 1}, {At: 259200, Off: 0}}) || len(table(row(32)...)) != 32 {
		t.Errorf("the tests' own tables are %v, %v", table(0, ^2), table(row(32)...))
	}
	all := anyTables()
	for i, x := range all {
		if leap.Good(x) != (i < len(goods())) {
			t.Errorf("Good(%v) is %v", x, leap.Good(x))
		}
		for _, y := range all[:i] {
			if slices.Equal(x, y) {
				t.Errorf("%v is there twice", x)
			}
		}
	}
}

// TestKeyByHand is P19.1's Key of entries whose keys are written down.
func TestKeyByHand(t *testing.T) {
	for _, x := range []struct {
		list []api.Leap
		want string
	}{
		{nil, ""}, {[]api.Leap{}, ""}, {[]api.Leap{{}}, "0:0;"}, {[]api.Leap{{At: 86401, Off: 1}}, "86401:1;"}, {[]api.Leap{{At: 86399, Off: -1}}, "86399:-1;"},
		{[]api.Leap{{At: 86401, Off: 1}, {At: 172800, Off: 0}}, "86401:1;172800:0;"}, {[]api.Leap{{At: 172800, Off: 0}, {At: 86401, Off: 1}}, "172800:0;86401:1;"},
		{[]api.Leap{{At: 3, Off: 3}, {At: 3, Off: 3}}, "3:3;3:3;"}, {[]api.Leap{{At: -10, Off: 10}, {At: 100, Off: -9}, {At: -1, Off: -1}}, "-10:10;100:-9;-1:-1;"},
		{[]api.Leap{{At: 1 << 40, Off: 32}, {At: 1483228827, Off: 27}}, "1099511627776:32;1483228827:27;"},
		{[]api.Leap{{At: math.MinInt, Off: math.MaxInt}, {At: math.MaxInt, Off: math.MinInt}}, "-9223372036854775808:9223372036854775807;9223372036854775807:-9223372036854775808;"},
	} {
		if got := vote.Key(x.list); got != x.want {
			t.Errorf("Key(%v) is %q, not %q", x.list, got, x.want)
		}
	}
}

// digits are those of a number, by tens taken off it.
func digits(n int) string {
	size := uint64(n)
	if n < 0 {
		size = -size
	}
	var list []byte
	for {
		list = append(list, "0123456789"[size%10])
		size /= 10
		if size == 0 {
			break
		}
	}
	if n < 0 {
		list = append(list, '-')
	}
	slices.Reverse(list)
	return string(list)
}

// keyOf is a table's key, worked out by the chapter's words.
func keyOf(list []api.Leap) string {
	key := ""
	for _, x := range list {
		key += digits(x.At) + ":" + digits(x.Off) + ";"
	}
	return key
}

// anyNumber is one of any length, either way.
func anyNumber(r *rand.Rand) int {
	n := int(r.Uint64() >> r.Intn(64))
	if r.Intn(2) == 0 {
		return -n
	}
	return n
}

// TestKeyAny is P19.1's Key of all tables of the tests, and of any numbers.
func TestKeyAny(t *testing.T) {
	lists := anyTables()
	r := rand.New(rand.NewSource(191))
	for range 3000 {
		list := make([]api.Leap, r.Intn(40))
		for i := range list {
			list[i] = api.Leap{At: anyNumber(r), Off: anyNumber(r)}
		}
		lists = append(lists, list)
	}
	for _, list := range lists {
		if got, want := vote.Key(list), keyOf(list); got != want {
			t.Fatalf("Key(%v) is %q, not %q", list, got, want)
		}
	}
}

// sequences are all those of up to n of some values.
func sequences[T any](n int, values ...T) [][]T {
	all := [][]T{nil}
	for from := 0; n > 0; n-- {
		until := len(all)
		for _, l := range all[from:until] {
			for _, x := range values {
				all = append(all, append(slices.Clone(l), x))
			}
		}
		from = until
	}
	return all
}

// TestKeyTells is that no two tables have one key: those whose digits may be taken for one another's.
func TestKeyTells(t *testing.T) {
	var entries []api.Leap
	for _, at := range []int{-11, -1, 0, 1, 11, 111} {
		for _, off := range []int{-1, 1, 11} {
			entries = append(entries, api.Leap{At: at, Off: off})
		}
	}
	of := map[string][]api.Leap{}
	for _, list := range sequences(3, entries...) {
		key := vote.Key(list)
		if other, is := of[key]; is {
			t.Fatalf("%v and %v have one key, %q", other, list, key)
		}
		of[key] = list
	}
}

// told is how many of some tables are the same as one.
func told(x []api.Leap, tables [][]api.Leap) int {
	n := 0
	for _, y := range tables {
		if slices.Equal(x, y) {
			n++
		}
	}
	return n
}

// model is what Adopt answers, by the chapter's words: each table is held against each other one.
func model(f int, own []api.Leap, tables [][]api.Leap) ([]api.Leap, bool) {
	best, is := own, false
	for _, x := range tables {
		if n := told(x, tables); leap.Good(x) && n > f && (!is || n > told(best, tables)) {
			best, is = x, true
		}
	}
	return best, is
}

// isAdopted holds that Adopt of some tables answers one of them, or one's own.
func isAdopted(t *testing.T, p api.Params, own []api.Leap, tables [][]api.Leap, want []api.Leap, is bool) {
	t.Helper()
	if got, ok := vote.Adopt(p, own, tables...); !slices.Equal(got, want) || ok != is {
		t.Fatalf("F %d: Adopt(%v, %v) is %v, %v, not %v, %v", p.F, own, tables, got, ok, want, is)
	}
}

// TestExamples are the chapter's examples.
func TestExamples(t *testing.T) {
	a, b, own := table(0), table(^0), table(7)
	isAdopted(t, api.Params{F: 1}, own, [][]api.Leap{a, b, a}, a, true)
	isAdopted(t, api.Params{F: 1}, own, [][]api.Leap{a, b}, own, false)
}

// TestAdoptByHand is P19.1's Adopt of tables whose answers are written down.
func TestAdoptByHand(t *testing.T) {
	a, b, c, own := table(0), table(^0), table(0, 1), table(7)
	odd, wrong, long := []api.Leap{{At: 86400, Off: 1}}, []api.Leap{{At: 5, Off: 3}}, table(row(33)...)
	type list = [][]api.Leap
	for _, x := range []struct {
		f      int
		tables list
		want   []api.Leap
		is     bool
	}{
		// Nobody tells one, one does, and just as many as F, or one more.
		{0, nil, own, false}, {1, nil, own, false}, {0, list{a}, a, true}, {1, list{a}, own, false}, {1, list{a, a}, a, true}, {2, list{a, a}, own, false}, {2, list{a, b, a, b, a}, a, true}, {math.MaxInt, list{a, a, a}, own, false},
		// The one that most are, wherever it stands; of several the one that is there first, though another one has its number first.
		{0, list{a, b, b}, b, true}, {1, list{a, a, b, b, b}, b, true}, {1, list{b, b, b, a, a}, b, true}, {0, list{b, a}, b, true}, {0, list{c, b, a, c, a, b}, c, true}, {1, list{b, a, a, b}, b, true}, {1, list{c, b, a, a, b}, b, true}, {0, list{c, b, a, a, b}, b, true},
		// Tables that aren't good aren't adopted, however many they are, and keep nobody out.
		{0, list{odd}, own, false}, {1, list{odd, odd, odd}, own, false}, {1, list{wrong, wrong, long, long, long}, own, false}, {1, list{odd, odd, odd, a, a}, a, true}, {0, list{wrong, wrong, long, long, b}, b, true}, {1, list{odd, odd, a}, own, false}, {1, list{a, odd, a, wrong}, a, true},
		// A table without entries is one, nil or empty.
		{1, list{nil, a, nil}, nil, true}, {1, list{nil, {}}, nil, true}, {0, list{{}}, nil, true}, {1, list{nil, a}, own, false}, {1, list{{}, a, nil, a}, nil, true}, {1, list{nil, a, a, a, nil}, a, true},
		// What begins like another one is another one, and one's own table has no vote.
		{1, list{a, c}, own, false}, {1, list{a, c, c, a, c}, c, true}, {1, list{own, a}, own, false}, {2, list{own, own}, own, false}, {1, list{own, a, own}, own, true}, {0, list{a, own}, a, true},
	} {
		isAdopted(t, api.Params{F: x.f}, own, x.tables, x.want, x.is)
	}
}

// TestAdoptOwn is P19.1's Adopt of all tables as one's own: each is answered as it is if none is adopted, and has no say if one is.
func TestAdoptOwn(t *testing.T) {
	a, b := table(0), table(^0)
	for _, own := range append(anyTables(), []api.Leap{}) {
		isAdopted(t, api.Params{F: 1}, own, nil, own, false)
		isAdopted(t, api.Params{F: 1}, own, [][]api.Leap{a, b}, own, false)
		isAdopted(t, api.Params{F: 1}, own, [][]api.Leap{own}, own, false)
		isAdopted(t, api.Params{F: 1}, own, [][]api.Leap{a, b, a}, a, true)
		isAdopted(t, api.Params{F: 0}, own, [][]api.Leap{nil, a}, nil, true)
	}
}

// TestAdoptEach is P19.1's Adopt of each table told by as many as F, and by one more, beside each other one.
func TestAdoptEach(t *testing.T) {
	own := table(7)
	for i, x := range anyTables() {
		for j, y := range anyTables() {
			if i == j {
				continue
			}
			isAdopted(t, api.Params{F: 2}, own, [][]api.Leap{x, y, y, x}, own, false)
			want, is := x, true
			if !leap.Good(x) {
				want, is = own, false
			}
			isAdopted(t, api.Params{F: 2}, own, [][]api.Leap{y, x, x, y, x}, want, is)
		}
	}
}

// TestAdoptAll is P19.1's Adopt of all short lists of three good tables and two that aren't.
func TestAdoptAll(t *testing.T) {
	own := table(7)
	for _, tables := range sequences(6, nil, table(0), table(0, 1), []api.Leap{{At: 86400, Off: 1}}, []api.Leap{{At: 5, Off: -4}}) {
		for f := range 4 {
			want, is := model(f, own, tables)
			isAdopted(t, api.Params{F: f}, own, tables, want, is)
		}
	}
}

// TestAdoptAny is P19.1's Adopt of many tables, and P19.2's second half: what is adopted is good, and more than F tell it.
func TestAdoptAny(t *testing.T) {
	r := rand.New(rand.NewSource(192))
	for range 3000 {
		some := anyTables()
		r.Shuffle(len(some), func(i, j int) { some[i], some[j] = some[j], some[i] })
		some = some[:1+r.Intn(len(some))]
		tables := make([][]api.Leap, r.Intn(60))
		for i := range tables {
			tables[i] = slices.Clone(some[r.Intn(len(some))])
		}
		f := []int{0, r.Intn(6), r.Intn(60), math.MaxInt - r.Intn(3)}[r.Intn(4)]
		own := some[r.Intn(len(some))]
		want, is := model(f, own, tables)
		isAdopted(t, api.Params{F: f}, own, tables, want, is)
		if got, ok := vote.Adopt(api.Params{F: f}, own, tables...); ok && (!leap.Good(got) || told(got, tables) <= f) {
			t.Fatalf("F %d: of %v %v is adopted", f, tables, got)
		}
	}
}

// TestAdoptMany is P19.1's Adopt of a long list: of one more than the others is enough.
func TestAdoptMany(t *testing.T) {
	const n = 20000
	a, b := table(0), table(row(32)...)
	var tables [][]api.Leap
	for range n {
		tables = append(tables, a, b, []api.Leap{{At: 5, Off: 1}})
	}
	isAdopted(t, api.Params{F: n - 1}, nil, tables, a, true)
	isAdopted(t, api.Params{F: n}, a, tables, a, false)
	isAdopted(t, api.Params{F: n}, a, append(tables, b), b, true)
}

// TestRight is P19.2's first half: more than F tell one good table, and the others, F at most, whatever they like, in any order, beside any table of one's own.
func TestRight(t *testing.T) {
	r := rand.New(rand.NewSource(193))
	all := anyTables()
	for _, right := range goods() {
		for f := range 8 {
			for range 60 {
				var tables [][]api.Leap
				for range f + 1 + r.Intn(12)/4 {
					tables = append(tables, slices.Clone(right))
				}
				lie := all[r.Intn(len(all))]
				for range r.Intn(f + 1) {
					// Those who lie may tell one table together, or each its own.
					if r.Intn(3) == 0 {
						lie = all[r.Intn(len(all))]
					}
					tables = append(tables, lie)
				}
				r.Shuffle(len(tables), func(i, j int) { tables[i], tables[j] = tables[j], tables[i] })
				isAdopted(t, api.Params{F: f}, all[r.Intn(len(all))], tables, right, true)
			}
		}
	}
}

// TestAllLies is the same of all that up to two who lie may tell, at all places.
func TestAllLies(t *testing.T) {
	const f = 2
	right := table(0, 1)
	for _, lies := range sequences(f, anyTables()...) {
		for i := range f + 2 {
			tables := [][]api.Leap{right, right, right}
			for _, lie := range lies {
				tables = slices.Insert(tables, min(i, len(tables)), lie)
			}
			isAdopted(t, api.Params{F: f}, table(7), tables, right, true)
		}
	}
}

// TestFAlone is P19.1: of a fabric's numbers F alone has a say.
func TestFAlone(t *testing.T) {
	a, b, own := table(0), table(^0), table(7)
	for _, n := range []int{math.MinInt, -1, 0, 1, 4, 1 << 40, math.MaxInt} {
		p := api.Params{N: n, F: 1, D: n, Beat: n, Rho: n, Delay: n, Jitter: n, Eps: n, Mu: n, Hold: n, Pulse: n, Second: n}
		isAdopted(t, p, own, [][]api.Leap{a, b, a}, a, true)
		isAdopted(t, p, own, [][]api.Leap{a, b}, own, false)
	}
}

// TestWrongF is that calls of an F below 0 end; nothing else is promised of them.
func TestWrongF(t *testing.T) {
	for _, f := range []int{math.MinInt, math.MinInt + 1, -2, -1} {
		for _, tables := range sequences(3, nil, table(0), []api.Leap{{At: 5, Off: 1}}) {
			vote.Adopt(api.Params{F: f}, table(7), tables...)
		}
	}
}

// roomy is a copy of a list that has room behind it, and what all of that must stay.
func roomy(list []api.Leap) (given, room, want []api.Leap) {
	room = append(slices.Clone(list), api.Leap{At: 4, Off: 5}, api.Leap{At: 6, Off: 7})
	return room[:len(list)], room, slices.Clone(room)
}

// overwrite writes into a list, and into all the room behind it.
func overwrite(list []api.Leap) {
	list = list[:cap(list)]
	for i := range list {
		list[i] = api.Leap{At: -9, Off: -9}
	}
}

// TestStays is P19.3's first half: what is handed in, and the room behind it, stays as it is, and what is written into it behind the call isn't seen.
func TestStays(t *testing.T) {
	for _, own := range anyTables() {
		for _, x := range anyTables() {
			var given, rooms, wants [][]api.Leap
			for _, list := range [][]api.Leap{own, x, table(5), x} {
				g, room, want := roomy(list)
				given, rooms, wants = append(given, g), append(rooms, room), append(wants, want)
			}
			outer := append(slices.Clone(given), table(1), table(1))
			key := vote.Key(given[0])
			got, ok := vote.Adopt(api.Params{F: 1}, given[0], outer[1:4]...)
			if !slices.EqualFunc(rooms, wants, slices.Equal[[]api.Leap]) || !slices.EqualFunc(outer[:4], given, slices.Equal[[]api.Leap]) || !slices.Equal(outer[4], table(1)) || !slices.Equal(outer[5], table(1)) {
				t.Fatalf("of %v the tables are %v and %v", wants, rooms, outer)
			}
			for _, room := range rooms {
				overwrite(room)
			}
			want, is := model(1, own, [][]api.Leap{x, table(5), x})
			if !slices.Equal(got, want) || ok != is || key != keyOf(own) {
				t.Fatalf("of %v and %v Adopt's answer is now %v, %v, and Key's %q", own, x, got, ok, key)
			}
		}
	}
}

// TestNewMemory is P19.3's second half: what is written into an answer is seen neither in what was handed in, nor in another answer.
func TestNewMemory(t *testing.T) {
	p := api.Params{F: 1}
	for _, x := range anyTables() {
		given, room, want := roomy(x)
		own, ownRoom, ownWant := roomy(table(5, 9))
		first, is := vote.Adopt(p, own, given, own, given)
		second, _ := vote.Adopt(p, own, given, own, given)
		mine, _ := vote.Adopt(p, given, own)
		mineToo, _ := vote.Adopt(p, given, own)
		overwrite(first)
		overwrite(mine)
		answer := x
		if !is {
			answer = table(5, 9)
		}
		if !slices.Equal(room, want) || !slices.Equal(ownRoom, ownWant) || !slices.Equal(second, answer) || !slices.Equal(mineToo, x) {
			t.Fatalf("what was written into answers of %v is seen: %v, %v, %v, %v", x, room, ownRoom, second, mineToo)
		}
	}
}

// TestAgain is rule 4: what was asked ahead of a call has no say in it.
func TestAgain(t *testing.T) {
	a, b, own := table(0), table(^0), table(7)
	for range 3 {
		isAdopted(t, api.Params{F: 1}, own, [][]api.Leap{a, b, a}, a, true)
		isAdopted(t, api.Params{F: 1}, own, [][]api.Leap{a, b}, own, false)
		isAdopted(t, api.Params{F: 1}, own, [][]api.Leap{b, a, b}, b, true)
	}
}
