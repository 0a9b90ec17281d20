package trim_test

import (
	"math"
	"math/bits"
	"math/rand"
	"slices"
	"testing"

	"clepsydra/api"
	"clepsydra/span"
	"clepsydra/trim"
)

// never are counts that no list has enough for: twice some of them, and one, wraps to what is small.
func never() []int {
	return []int{math.MinInt, math.MinInt + 1, -1 << 62, -2, -1, 1000, 1<<62 - 1, 1 << 62, 1<<62 + 1, math.MaxInt - 1, math.MaxInt}
}

// lists are all those of up to n of some values, in any order.
func lists[T any](n int, values ...T) [][]T {
	all := [][]T{nil}
	for from := 0; n > 0; n-- {
		until := len(all)
		for _, l := range all[from:until] {
			for _, x := range values {
				all = append(all, append(slices.Clone(l), x))
			}
		}
		from = until
	}
	return all
}

// some are n numbers, near to 0, near to an end, or anywhere.
func some(r *rand.Rand, n int) []int {
	list := make([]int, n)
	for i := range list {
		switch r.Intn(4) {
		case 0:
			list[i] = int(r.Uint64())
		case 1:
			list[i] = []int{math.MinInt, -api.Most, api.Most, math.MaxInt}[r.Intn(4)] + r.Intn(7) - 3
		default:
			list[i] = r.Intn(9) - 4
		}
	}
	return list
}

func how(list []int, is func(int) bool) int {
	n := 0
	for _, x := range list {
		if is(x) {
			n++
		}
	}
	return n
}

// isLeast is whether x is the k-th least: at most k are below it, more than k not above.
func isLeast(k, x int, list []int) bool {
	return slices.Contains(list, x) && how(list, func(y int) bool { return y < x }) <= k && how(list, func(y int) bool { return y <= x }) > k
}

// isMost is the same from the other end.
func isMost(k, x int, list []int) bool {
	return slices.Contains(list, x) && how(list, func(y int) bool { return y > x }) <= k && how(list, func(y int) bool { return y >= x }) > k
}

// asked asks for the k-th least and the k-th greatest, and holds them against what they must be.
func asked(t *testing.T, k int, list []int) {
	t.Helper()
	least, ok1 := trim.Least(k, list...)
	most, ok2 := trim.Most(k, list...)
	switch is := k >= 0 && k < len(list); {
	case ok1 != is || ok2 != is:
		t.Fatalf("of %d of %v Least says %v, Most %v", k, list, ok1, ok2)
	case !is && (least != 0 || most != 0):
		t.Fatalf("of %d of %v Least is %d, Most %d beside false", k, list, least, most)
	case is && !isLeast(k, least, list):
		t.Fatalf("Least(%d) of %v is %d", k, list, least)
	case is && !isMost(k, most, list):
		t.Fatalf("Most(%d) of %v is %d", k, list, most)
	}
}

// TestLeastMost is P7.1's Least and Most: any order, the same number twice, each place, and places that aren't there.
func TestLeastMost(t *testing.T) {
	if x, ok := trim.Least(1, 5, 3, 9); x != 5 || !ok {
		t.Errorf("Least(1) of 5, 3, 9 is %d, %v", x, ok)
	}
	if x, ok := trim.Most(2, 5, 3, 9); x != 3 || !ok {
		t.Errorf("Most(2) of 5, 3, 9 is %d, %v", x, ok)
	}
	// No number is clipped.
	beyond := []int{math.MaxInt, api.Most + 1, 0, -api.Most - 1, math.MinInt}
	for k := range beyond {
		if x, ok := trim.Most(k, beyond...); x != beyond[k] || !ok {
			t.Errorf("Most(%d) of %v is %d, %v", k, beyond, x, ok)
		}
		if x, ok := trim.Least(4-k, beyond...); x != beyond[k] || !ok {
			t.Errorf("Least(%d) of %v is %d, %v", 4-k, beyond, x, ok)
		}
	}
	for _, list := range lists(4, -7, 0, 3, 12) {
		for k := -2; k <= 6; k++ {
			asked(t, k, list)
		}
		for _, k := range never() {
			asked(t, k, list)
		}
	}
	r := rand.New(rand.NewSource(7))
	for n := range 60 {
		list := some(r, n)
		for k := -1; k <= n; k++ {
			asked(t, k, list)
		}
	}
}

func clip(x int) int { return min(max(x, -api.Most), api.Most) }

// ends are all that spans begin with, and all that they end with.
func ends(list []api.Span) (los, his []int) {
	for _, s := range list {
		los, his = append(los, s.Lo), append(his, s.Hi)
	}
	return los, his
}

// wantFuse finds both ends by counting: the greatest Lo that more than f reach, the least Hi that more than f don't pass.
func wantFuse(f int, list []api.Span) (api.Span, bool) {
	// n above 2 f, said so that nothing wraps.
	if f < 0 || f > len(list) || len(list) <= 2*f {
		return api.Span{}, false
	}
	los, his := ends(list)
	lo, hi := math.MinInt, math.MaxInt
	for _, s := range list {
		if how(los, func(x int) bool { return x >= s.Lo }) > f {
			lo = max(lo, s.Lo)
		}
		if how(his, func(x int) bool { return x <= s.Hi }) > f {
			hi = min(hi, s.Hi)
		}
	}
	if lo > hi {
		return api.Span{}, false
	}
	return api.Span{Lo: clip(lo), Hi: clip(hi)}, true
}

func fused(t *testing.T, f int, list []api.Span) {
	t.Helper()
	got, ok := trim.Fuse(f, list...)
	if want, is := wantFuse(f, list); got != want || ok != is {
		t.Fatalf("Fuse(%d) of %v is %v, %v, not %v, %v", f, list, got, ok, want, is)
	}
}

// TestFuse is P7.1's Fuse: how many spans are enough, ends that come from different spans, nothing left, and ends beyond api.Most.
func TestFuse(t *testing.T) {
	most := api.Most
	a, b, far := api.Span{Lo: 1, Hi: 5}, api.Span{Lo: 4, Hi: 9}, api.Span{Lo: 100, Hi: 200}
	for _, c := range []struct {
		f    int
		list []api.Span
		want api.Span
		ok   bool
	}{
		{1, []api.Span{a, b, far}, api.Span{Lo: 4, Hi: 9}, true}, {1, []api.Span{far, b, a}, api.Span{Lo: 4, Hi: 9}, true},
		{0, []api.Span{a, b}, api.Span{Lo: 4, Hi: 5}, true}, {0, []api.Span{a}, a, true}, {0, []api.Span{a, far}, api.Span{}, false},
		{0, nil, api.Span{}, false}, {0, []api.Span{}, api.Span{}, false}, {-1, []api.Span{a, b, far}, api.Span{}, false}, {1, nil, api.Span{}, false},
		// Enough, and one fewer.
		{1, []api.Span{a, a, a}, a, true}, {1, []api.Span{a, a}, api.Span{}, false}, {2, []api.Span{a, a, a, a, a}, a, true}, {2, []api.Span{a, a, a, a}, api.Span{}, false},
		// One time left, and none.
		{0, []api.Span{{Lo: 1, Hi: 4}, {Lo: 4, Hi: 9}}, api.Span{Lo: 4, Hi: 4}, true}, {0, []api.Span{{Lo: 1, Hi: 3}, {Lo: 4, Hi: 9}}, api.Span{}, false}, {1, []api.Span{{Lo: 1, Hi: 2}, {Lo: 4, Hi: 5}, {Lo: 8, Hi: 9}}, api.Span{Lo: 4, Hi: 5}, true},
		// Spans with nothing in them count, too.
		{0, []api.Span{{Lo: 3, Hi: 2}}, api.Span{}, false}, {1, []api.Span{{Lo: 7, Hi: 1}, a, b}, api.Span{Lo: 4, Hi: 5}, true}, {1, []api.Span{{Lo: 7, Hi: 1}, {Lo: 8, Hi: 0}, a}, api.Span{}, false},
		// Beyond api.Most.
		{0, []api.Span{{Lo: math.MinInt, Hi: math.MaxInt}}, span.All(), true}, {0, []api.Span{{Lo: 7, Hi: math.MaxInt}, {Lo: math.MinInt, Hi: 9}}, api.Span{Lo: 7, Hi: 9}, true},
		{0, []api.Span{{Lo: most + 1, Hi: most + 3}}, api.Span{Lo: most, Hi: most}, true}, {1, []api.Span{{Lo: most + 1, Hi: most + 3}, {Lo: most, Hi: most + 1}, {Lo: math.MinInt, Hi: -most}}, api.Span{Lo: most, Hi: most}, true},
		{0, []api.Span{{Lo: math.MaxInt, Hi: math.MinInt}}, api.Span{}, false}, {0, []api.Span{{Lo: most, Hi: most - 1}}, api.Span{}, false}, {0, []api.Span{{Lo: math.MinInt, Hi: -most - 1}, {Lo: 1 - most, Hi: 5}}, api.Span{}, false},
		// The ends are held against one another as they are told, not as they are clipped.
		{0, []api.Span{{Lo: most + 3, Hi: most + 1}}, api.Span{}, false}, {0, []api.Span{{Lo: most + 1, Hi: most}}, api.Span{}, false}, {0, []api.Span{{Lo: math.MaxInt, Hi: math.MaxInt - 1}}, api.Span{}, false},
		{0, []api.Span{{Lo: -most - 1, Hi: math.MinInt}}, api.Span{}, false}, {0, []api.Span{{Lo: -most, Hi: -most - 1}}, api.Span{}, false}, {0, []api.Span{{Lo: math.MinInt + 1, Hi: math.MinInt}}, api.Span{}, false},
		{0, []api.Span{{Lo: most + 3, Hi: most + 3}}, api.Span{Lo: most, Hi: most}, true}, {0, []api.Span{{Lo: math.MinInt, Hi: math.MinInt}}, api.Span{Lo: -most, Hi: -most}, true},
		// So are those that come from different spans.
		{0, []api.Span{{Lo: 0, Hi: most + 1}, {Lo: most + 2, Hi: most + 5}}, api.Span{}, false}, {0, []api.Span{{Lo: 0, Hi: most + 2}, {Lo: most + 2, Hi: most + 5}}, api.Span{Lo: most, Hi: most}, true},
		{1, []api.Span{{Lo: -most - 9, Hi: -most - 5}, {Lo: -most - 4, Hi: -most - 3}, {Lo: -most - 2, Hi: 7}}, api.Span{Lo: -most, Hi: -most}, true}, {1, []api.Span{{Lo: -most - 4, Hi: -most - 5}, {Lo: -most - 4, Hi: -most - 5}, {Lo: -most - 2, Hi: 7}}, api.Span{}, false},
	} {
		if got, ok := trim.Fuse(c.f, c.list...); got != c.want || ok != c.ok {
			t.Errorf("Fuse(%d) of %v is %v, %v", c.f, c.list, got, ok)
		}
	}
}

// TestFuseOfAll is P7.1's Fuse of any spans, of few and of many.
func TestFuseOfAll(t *testing.T) {
	for _, list := range lists(4, api.Span{Lo: 1, Hi: 5}, api.Span{Lo: 4, Hi: 9}, api.Span{Lo: 6, Hi: 7}, api.Span{Lo: 8, Hi: 3}, api.Span{Lo: math.MinInt, Hi: math.MaxInt}) {
		for f := -1; f <= 3; f++ {
			fused(t, f, list)
		}
		for _, f := range never() {
			fused(t, f, list)
		}
	}
	r := rand.New(rand.NewSource(77))
	for i := range 3000 {
		n := i % 21
		los, his := some(r, n), some(r, n)
		list := make([]api.Span, n)
		for i := range list {
			list[i] = api.Span{Lo: los[i], Hi: his[i]}
		}
		for f := -1; f <= 11; f++ {
			fused(t, f, list)
		}
	}
}

// haveIt are those of some spans that a time is in.
func haveIt(x int, list []api.Span) []api.Span {
	var have []api.Span
	for _, s := range list {
		if s.Lo <= x && x <= s.Hi {
			have = append(have, s)
		}
	}
	return have
}

func widest(list []api.Span) int {
	most := -1
	for _, s := range list {
		most = max(most, s.Hi-s.Lo)
	}
	return most
}

// timeIsIn is P7.2 of one time and one list.
func timeIsIn(t *testing.T, f, x int, list []api.Span) {
	t.Helper()
	have := haveIt(x, list)
	if len(list) < 2*f+1 || len(list)-len(have) > f {
		return
	}
	s, ok := trim.Fuse(f, list...)
	if !ok || x < s.Lo || x > s.Hi {
		t.Fatalf("%d is in all of %v but %d, Fuse is %v, %v", x, list, len(list)-len(have), s, ok)
	}
	if len(have) >= 2*f+1 && s.Hi-s.Lo > widest(have) {
		t.Fatalf("%d is in %v, Fuse(%d) of %v is %v", x, have, f, list, s)
	}
}

// TestTimeIsInFuse is P7.2, of small spans in any order, and of a time to either side of which right ones reach, while others say whatever they like.
func TestTimeIsInFuse(t *testing.T) {
	for _, list := range lists(5, api.Span{Lo: 0, Hi: 2}, api.Span{Lo: 1, Hi: 4}, api.Span{Lo: 2, Hi: 2}, api.Span{Lo: 3, Hi: 1}, api.Span{Lo: 3, Hi: 6}) {
		for f := range 3 {
			for x := -1; x <= 7; x++ {
				timeIsIn(t, f, x, list)
			}
		}
	}
	r := rand.New(rand.NewSource(72))
	for i := range 4000 {
		f, more := i%6, i/6%4
		// Times from one end of what may be to the other one.
		x := []int{0, -1000, api.Most, -api.Most, int(r.Int63n(2*api.Most)) - api.Most}[i%5]
		var list []api.Span
		for range f + 1 + more {
			list = append(list, api.Span{Lo: max(x-r.Intn(50), -api.Most), Hi: min(x+r.Intn(50), api.Most)})
		}
		lies := some(r, 2*f)
		for j := range f {
			list = append(list, api.Span{Lo: clip(lies[2*j]), Hi: clip(lies[2*j+1])})
		}
		r.Shuffle(len(list), func(i, j int) { list[i], list[j] = list[j], list[i] })
		timeIsIn(t, f, x, list)
	}
}

func middled(t *testing.T, f int, list []int) {
	t.Helper()
	got, ok := trim.Middle(f, list...)
	if f < 0 || f > len(list) || len(list) < 2*f+1 {
		if got != 0 || ok {
			t.Fatalf("Middle(%d) of %v is %d, %v", f, list, got, ok)
		}
		return
	}
	var lo, hi int
	for _, x := range list {
		if isLeast(f, x, list) {
			lo = x
		}
		if isMost(f, x, list) {
			hi = x
		}
	}
	if want := span.Mid(api.Span{Lo: lo, Hi: hi}); got != want || !ok {
		t.Fatalf("Middle(%d) of %v is %d, %v, not %d", f, list, got, ok, want)
	}
}

// TestMiddle is P7.1's Middle: how many numbers are enough, halves down on both sides of 0, and ends that are clipped.
func TestMiddle(t *testing.T) {
	for _, c := range []struct {
		f    int
		list []int
		want int
		ok   bool
	}{
		{1, []int{100, 4, -100, 7, 5}, 5, true}, {1, []int{100, 4, -100, 7}, 5, true}, {1, []int{9, 5, 1}, 5, true}, {1, []int{9, 5}, 0, false}, {2, []int{9, 5, 8, 6, 7}, 7, true}, {2, []int{9, 5, 8, 6}, 0, false},
		{0, []int{3, 6}, 4, true}, {0, []int{-3, -6}, -5, true}, {0, []int{7}, 7, true}, {0, nil, 0, false}, {0, []int{}, 0, false}, {-1, []int{1, 2, 3}, 0, false},
		// Between the least and the greatest one, whatever is between these.
		{0, []int{0, 100, 1, 2}, 50, true},
		{0, []int{math.MinInt, math.MaxInt}, 0, true}, {0, []int{math.MaxInt}, api.Most, true}, {0, []int{math.MinInt, math.MinInt + 5}, -api.Most, true}, {0, []int{0, math.MaxInt}, 1 << 60, true}, {1, []int{math.MaxInt, 3, math.MaxInt}, api.Most, true},
	} {
		if got, ok := trim.Middle(c.f, c.list...); got != c.want || ok != c.ok {
			t.Errorf("Middle(%d) of %v is %d, %v", c.f, c.list, got, ok)
		}
	}
	r := rand.New(rand.NewSource(71))
	for n := range 80 {
		list := some(r, n%16)
		for f := -2; f <= 9; f++ {
			middled(t, f, list)
		}
		for _, f := range never() {
			middled(t, f, list)
		}
	}
}

// TestMiddleIsBetween is P7.3: of all lists of small numbers, and of the greatest ones; whichever are the ones that aren't from one to another.
func TestMiddleIsBetween(t *testing.T) {
	between := func(list, from []int) {
		for f := 0; 2*f+1 <= len(list); f++ {
			mid, ok := trim.Middle(f, list...)
			for _, lo := range from {
				for _, hi := range from {
					if how(list, func(x int) bool { return x < lo || x > hi }) <= f && (!ok || mid < lo || mid > hi) {
						t.Fatalf("all of %v but %d at most are from %d to %d, Middle is %d, %v", list, f, lo, hi, mid, ok)
					}
				}
			}
		}
	}
	small, great := []int{-6, -1, 0, 3, 8}, []int{-api.Most, -api.Most + 1, 5, api.Most - 1, api.Most}
	for _, list := range lists(5, small...) {
		between(list, small)
	}
	for _, list := range lists(5, great...) {
		between(list, great)
	}
	// Those who lie may go beyond api.Most.
	for _, list := range lists(5, math.MinInt, -4, 9, math.MaxInt) {
		between(list, []int{-4, 9})
	}
}

// agreed holds Agreed of a list against what it must be: for each value, how many are the same as it is counted by ==.
func agreed[T comparable](t *testing.T, f int, list []T) {
	t.Helper()
	var want T
	most := 0
	for _, x := range list {
		n := 0
		for _, y := range list {
			if x == y {
				n++
			}
		}
		if n > f && n > most {
			want, most = x, n
		}
	}
	if got, ok := trim.Agreed(f, list...); got != want || ok != (most > 0) {
		t.Fatalf("Agreed(%d) of %v is %v, %v", f, list, got, ok)
	}
}

// TestAgreed is P7.1's Agreed: more than f and no fewer, the one of which there are most, the first of several, and values of many types.
func TestAgreed(t *testing.T) {
	for _, c := range []struct {
		f    int
		list []int
		want int
		ok   bool
	}{
		{1, []int{7, 8, 7}, 7, true}, {2, []int{7, 8, 7}, 0, false}, {2, []int{7, 8, 7, 7}, 7, true}, {1, []int{7, 8, 9}, 0, false}, {0, []int{7}, 7, true}, {1, []int{7}, 0, false},
		{0, nil, 0, false}, {-1, nil, 0, false}, {-1, []int{7, 8, 8}, 8, true}, {math.MinInt, []int{7}, 7, true}, {math.MaxInt, []int{7, 7}, 0, false},
		// Of several: the one of which there are most, be it first or last; else the first, wherever the count is full.
		{1, []int{7, 7, 8, 8, 8}, 8, true}, {1, []int{8, 8, 8, 7, 7}, 8, true}, {1, []int{7, 8, 7, 8}, 7, true}, {1, []int{8, 7, 7, 8}, 8, true}, {1, []int{9, 8, 7, 7, 8}, 8, true},
		// What is told may be the zero value.
		{1, []int{0, 5, 0}, 0, true},
	} {
		if got, ok := trim.Agreed(c.f, c.list...); got != c.want || ok != c.ok {
			t.Errorf("Agreed(%d) of %v is %d, %v", c.f, c.list, got, ok)
		}
	}
	for _, list := range lists(6, 0, 1, 2) {
		for f := -1; f <= 6; f++ {
			agreed(t, f, list)
		}
		for _, f := range never() {
			agreed(t, f, list)
		}
	}
	for _, list := range lists(5, "", "x", "xy") {
		agreed(t, 1, list)
	}
	for _, list := range lists(5, api.Leap{At: 1}, api.Leap{Off: 1}, api.Leap{}) {
		agreed(t, 1, list)
	}
	for _, list := range lists(5, [2]any{1, "x"}, [2]any{1, 2}, [2]any{}) {
		agreed(t, 1, list)
	}
	for _, list := range lists(5, any(1), any("1"), any(int8(1)), nil) {
		agreed(t, 1, list)
	}
}

// TestAgreedOfOdds is P7.1's Agreed of values that aren't equal to themselves, or that can't be compared: each is the same as itself alone, and no call panics.
func TestAgreedOfOdds(t *testing.T) {
	nan := math.NaN()
	if x, ok := trim.Agreed(0, nan, nan); x == x || !ok {
		t.Errorf("Agreed(0) of two that are no numbers is %v, %v", x, ok)
	}
	if x, ok := trim.Agreed(1, nan, nan); x != 0 || ok {
		t.Errorf("Agreed(1) of two that are no numbers is %v, %v", x, ok)
	}
	if x, ok := trim.Agreed(0, nan, 7, 7); x != 7 || !ok {
		t.Errorf("Agreed(0) of one that is no number, 7 and 7 is %v, %v", x, ok)
	}
	// Two zeros that are the same, and can be told apart: the first one.
	if x, ok := trim.Agreed(1, math.Copysign(0, -1), 0); x != 0 || !math.Signbit(x) || !ok {
		t.Errorf("Agreed(1) of -0 and 0 is %v, %v", x, ok)
	}
	list := []int{1}
	for _, odd := range []any{list, map[int]int{}, func() {}, [1]any{list}, struct{ x any }{list}} {
		if x, ok := trim.Agreed[any](1, odd, odd, odd); x != nil || ok {
			t.Errorf("Agreed(1) of three %T is %v, %v", odd, x, ok)
		}
		if x, ok := trim.Agreed[any](1, odd, 7, odd, 7); x != 7 || !ok {
			t.Errorf("Agreed(1) of two %T and two 7 is %v, %v", odd, x, ok)
		}
		if x, ok := trim.Agreed[any](0, odd, 7); x == nil || x == any(7) || !ok {
			t.Errorf("Agreed(0) of a %T and 7 is %v, %v", odd, x, ok)
		}
		if x, ok := trim.Agreed[any](0, 7, odd); x != 7 || !ok {
			t.Errorf("Agreed(0) of 7 and a %T is %v, %v", odd, x, ok)
		}
	}
}

// TestOneOfThemIsRight is P7.4: whichever f at most are wrong, what is agreed upon one says who isn't.
func TestOneOfThemIsRight(t *testing.T) {
	for _, list := range lists(6, 0, 1, 2) {
		for f := range 6 {
			x, ok := trim.Agreed(f, list...)
			for wrong := uint(0); ok && wrong < 1<<len(list); wrong++ {
				if bits.OnesCount(wrong) <= f && !saidBeside(wrong, x, list) {
					t.Fatalf("Agreed(%d) of %v is %d, which only wrong ones (%b) say", f, list, x, wrong)
				}
			}
		}
	}
}

// saidBeside is whether x is said by one who isn't among the wrong ones.
func saidBeside(wrong uint, x int, list []int) bool {
	for i, y := range list {
		if wrong>>i&1 == 0 && x == y {
			return true
		}
	}
	return false
}

// TestListsStay is P7.5's first half: what is handed in isn't changed, spare room included.
func TestListsStay(t *testing.T) {
	numbers := []int{9, 1, 5, 3, 7, 77, -78}
	spans := []api.Span{{Lo: 4, Hi: math.MaxInt}, {Lo: 1, Hi: 5}, {Lo: math.MinInt, Hi: 12}, {Lo: 7, Hi: 8}, {Lo: -2, Hi: -1}}
	texts := []string{"y", "x", "x", "z", "w"}
	kept, keptSpans, keptTexts := slices.Clone(numbers), slices.Clone(spans), slices.Clone(texts)
	for f := -1; f <= 3; f++ {
		trim.Least(f, numbers[:5]...)
		trim.Most(f, numbers[:5]...)
		trim.Middle(f, numbers[:5]...)
		trim.Fuse(f, spans[:3]...)
		trim.Agreed(f, texts[:3]...)
	}
	if !slices.Equal(numbers, kept) || !slices.Equal(spans, keptSpans) || !slices.Equal(texts, keptTexts) {
		t.Errorf("lists became %v, %v, %v", numbers, spans, texts)
	}
}

// TestNothingIsKept is P7.5's second half: a list that the caller writes into is, the next time, what it is by then.
func TestNothingIsKept(t *testing.T) {
	numbers, spans, leaps := make([]int, 3), make([]api.Span, 3), make([]api.Leap, 3)
	for x := -5; x <= 5; x++ {
		for i := range 3 {
			numbers[i], spans[i], leaps[i] = x+i, api.Span{Lo: x - i, Hi: x + 10*i}, api.Leap{At: x}
		}
		if got, ok := trim.Least(0, numbers...); got != x || !ok {
			t.Errorf("Least of %v is %d, %v", numbers, got, ok)
		}
		if got, ok := trim.Most(0, numbers...); got != x+2 || !ok {
			t.Errorf("Most of %v is %d, %v", numbers, got, ok)
		}
		if got, ok := trim.Middle(1, numbers...); got != x+1 || !ok {
			t.Errorf("Middle of %v is %d, %v", numbers, got, ok)
		}
		if got, ok := trim.Fuse(1, spans...); got != (api.Span{Lo: x - 1, Hi: x + 10}) || !ok {
			t.Errorf("Fuse of %v is %v, %v", spans, got, ok)
		}
		if got, ok := trim.Agreed(2, leaps...); got != (api.Leap{At: x}) || !ok {
			t.Errorf("Agreed of %v is %v, %v", leaps, got, ok)
		}
	}
}
