package span_test

import (
	"math"
	"math/big"
	"slices"
	"testing"

	"clepsydra/api"
	"clepsydra/sat"
	"clepsydra/span"
)

// within are, by rising times, ends that aren't beyond api.Most.
func within() []int {
	return []int{-api.Most, -api.Most + 1, -1 << 60, -1000, -5, -2, -1, 0, 1, 2, 3, 8, 1000, 1 << 60, api.Most - 2, api.Most - 1, api.Most}
}

// edges are ends within and beyond.
func edges() []int {
	beyond := []int{math.MinInt, math.MinInt + 1, -1 << 62, -api.Most - 2, -api.Most - 1, api.Most + 1, api.Most + 2, 1 << 62, math.MaxInt - 1, math.MaxInt}
	all := append(within(), beyond...)
	slices.Sort(all)
	return all
}

// spans are all that have their ends among some: those with nothing in them, too.
func spans(ends []int) []api.Span {
	var all []api.Span
	for _, lo := range ends {
		for _, hi := range ends {
			all = append(all, api.Span{Lo: lo, Hi: hi})
		}
	}
	return all
}

func clip(x int) int { return min(max(x, -api.Most), api.Most) }

// TestAllOf is P3.1's All and Of, whose ends are clipped each for itself, whichever is greater.
func TestAllOf(t *testing.T) {
	if got := span.All(); got != (api.Span{Lo: -1 << 61, Hi: 1 << 61}) {
		t.Errorf("All() is %v", got)
	}
	for _, s := range spans(edges()) {
		if got, want := span.Of(s.Lo, s.Hi), (api.Span{Lo: clip(s.Lo), Hi: clip(s.Hi)}); got != want {
			t.Errorf("Of(%d, %d) is %v, not %v", s.Lo, s.Hi, got, want)
		}
	}
	if got := span.Of(5, 1); got != (api.Span{Lo: 5, Hi: 1}) {
		t.Errorf("Of(5, 1) is %v", got)
	}
}

// TestEmptyHas is P3.1's Empty and Has: both ends are in a span, and ends beyond api.Most are held as they are.
func TestEmptyHas(t *testing.T) {
	for _, c := range []struct {
		s       api.Span
		empty   bool
		in, out []int
	}{
		{api.Span{Lo: 1, Hi: 5}, false, []int{1, 2, 4, 5}, []int{0, 6, -3, math.MinInt, math.MaxInt}},
		{api.Span{Lo: -5, Hi: -5}, false, []int{-5}, []int{-6, -4, 5, 0}},
		{api.Span{}, false, []int{0}, []int{-1, 1}},
		{api.Span{Lo: 3, Hi: 2}, true, nil, []int{1, 2, 3, 4}},
		{api.Span{Lo: api.Most, Hi: -api.Most}, true, nil, []int{-api.Most, 0, api.Most}},
		{api.Span{Lo: math.MinInt, Hi: math.MaxInt}, false, []int{math.MinInt, 0, math.MaxInt, api.Most + 1}, nil},
		{api.Span{Lo: math.MaxInt, Hi: math.MinInt}, true, nil, []int{math.MinInt, 0, math.MaxInt}},
		{api.Span{Lo: api.Most + 1, Hi: api.Most + 3}, false, []int{api.Most + 1, api.Most + 3}, []int{api.Most, api.Most + 4}},
		{api.Span{Lo: api.Most + 3, Hi: api.Most + 1}, true, nil, []int{api.Most, api.Most + 1, api.Most + 2, api.Most + 3}},
		{api.Span{Lo: -api.Most - 1, Hi: -api.Most - 2}, true, nil, []int{-api.Most, -api.Most - 1, -api.Most - 2}},
		{span.All(), false, []int{-api.Most, 0, api.Most}, []int{-api.Most - 1, api.Most + 1, math.MinInt, math.MaxInt}},
	} {
		if got := span.Empty(c.s); got != c.empty {
			t.Errorf("Empty(%v) is %v", c.s, got)
		}
		for _, x := range c.in {
			if !span.Has(c.s, x) {
				t.Errorf("Has(%v, %d) is false", c.s, x)
			}
		}
		for _, x := range c.out {
			if span.Has(c.s, x) {
				t.Errorf("Has(%v, %d) is true", c.s, x)
			}
		}
	}
}

// TestMeetHull is P3.1's Meet and Hull: of none, one, two and more spans, of some with nothing in them, and beyond api.Most.
func TestMeetHull(t *testing.T) {
	most, none := api.Most, api.Span{Lo: api.Most, Hi: -api.Most}
	for _, c := range []struct {
		list       []api.Span
		meet, hull api.Span
	}{
		{nil, span.All(), none},
		{[]api.Span{}, span.All(), none},
		{[]api.Span{{Lo: 1, Hi: 5}}, api.Span{Lo: 1, Hi: 5}, api.Span{Lo: 1, Hi: 5}},
		{[]api.Span{{Lo: 1, Hi: 5}, {Lo: 4, Hi: 9}}, api.Span{Lo: 4, Hi: 5}, api.Span{Lo: 1, Hi: 9}},
		{[]api.Span{{Lo: 1, Hi: 9}, {Lo: 4, Hi: 5}}, api.Span{Lo: 4, Hi: 5}, api.Span{Lo: 1, Hi: 9}},
		{[]api.Span{{Lo: 1, Hi: 4}, {Lo: 4, Hi: 9}}, api.Span{Lo: 4, Hi: 4}, api.Span{Lo: 1, Hi: 9}},
		// Apart: Meet has the ends the wrong way round, Hull what is between, too.
		{[]api.Span{{Lo: 6, Hi: 9}, {Lo: 1, Hi: 4}}, api.Span{Lo: 6, Hi: 4}, api.Span{Lo: 1, Hi: 9}},
		{[]api.Span{{Lo: 2, Hi: 8}, {Lo: -3, Hi: 6}, {Lo: 3, Hi: 7}}, api.Span{Lo: 3, Hi: 6}, api.Span{Lo: -3, Hi: 8}},
		// Nothing in one: Hull passes it over, Meet doesn't.
		{[]api.Span{{Lo: 3, Hi: 2}}, api.Span{Lo: 3, Hi: 2}, none},
		{[]api.Span{{Lo: 1, Hi: 5}, {Lo: 30, Hi: -20}}, api.Span{Lo: 30, Hi: -20}, api.Span{Lo: 1, Hi: 5}},
		{[]api.Span{{Lo: 30, Hi: -20}, {Lo: 1, Hi: 5}}, api.Span{Lo: 30, Hi: -20}, api.Span{Lo: 1, Hi: 5}},
		{[]api.Span{{Lo: 4, Hi: 3}, {Lo: 1, Hi: 0}}, api.Span{Lo: 4, Hi: 0}, none},
		// Beyond api.Most.
		{[]api.Span{{Lo: math.MinInt, Hi: math.MaxInt}}, span.All(), span.All()},
		{[]api.Span{{Lo: most + 1, Hi: most + 3}}, api.Span{Lo: most, Hi: most}, api.Span{Lo: most, Hi: most}},
		{[]api.Span{{Lo: math.MinInt, Hi: -most - 1}}, api.Span{Lo: -most, Hi: -most}, api.Span{Lo: -most, Hi: -most}},
		{[]api.Span{{Lo: 7, Hi: math.MaxInt}, {Lo: math.MinInt, Hi: 9}}, api.Span{Lo: 7, Hi: 9}, span.All()},
		// With nothing in it as it is, though clipped it would have one time in it.
		{[]api.Span{{Lo: most + 3, Hi: most + 1}}, api.Span{Lo: most, Hi: most}, none},
		{[]api.Span{{Lo: -most - 1, Hi: -most - 3}, {Lo: 1, Hi: 5}}, api.Span{Lo: 1, Hi: -most}, api.Span{Lo: 1, Hi: 5}},
	} {
		if got := span.Meet(c.list...); got != c.meet {
			t.Errorf("Meet of %v is %v, not %v", c.list, got, c.meet)
		}
		if got := span.Hull(c.list...); got != c.hull {
			t.Errorf("Hull of %v is %v, not %v", c.list, got, c.hull)
		}
	}
}

// TestMeetHullOfTwo is P3.1's Meet and Hull, of any two spans within and beyond.
func TestMeetHullOfTwo(t *testing.T) {
	all := spans(edges())
	for _, a := range all {
		for _, b := range all {
			if got, want := span.Meet(a, b), (api.Span{Lo: clip(max(a.Lo, b.Lo)), Hi: clip(min(a.Hi, b.Hi))}); got != want {
				t.Fatalf("Meet(%v, %v) is %v, not %v", a, b, got, want)
			}
			if got, want := span.Hull(a, b), wantHull(a, b); got != want {
				t.Fatalf("Hull(%v, %v) is %v, not %v", a, b, got, want)
			}
		}
	}
}

func wantHull(a, b api.Span) api.Span {
	switch noA, noB := a.Lo > a.Hi, b.Lo > b.Hi; {
	case noA && noB:
		return api.Span{Lo: api.Most, Hi: -api.Most}
	case noA:
		a = b
	case noB:
		b = a
	}
	return api.Span{Lo: clip(min(a.Lo, b.Lo)), Hi: clip(max(a.Hi, b.Hi))}
}

// TestInMeetInHull is P3.2's Meet and Hull, of two and of three spans within: a time is in Meet just if it is in all of them; what is in one is in Hull.
func TestInMeetInHull(t *testing.T) {
	ends := within()
	all := spans(ends)
	for i, a := range all {
		for j, b := range all {
			inMeetInHull(t, ends, a, b)
			c := all[(i*7+j*5)%len(all)]
			inMeetInHull(t, ends, a, b, c)
		}
	}
}

func inMeetInHull(t *testing.T, times []int, list ...api.Span) {
	t.Helper()
	meet, hull := span.Meet(list...), span.Hull(list...)
	for _, x := range times {
		count := 0
		for _, s := range list {
			if s.Lo <= x && x <= s.Hi {
				count++
			}
		}
		if span.Has(meet, x) != (count == len(list)) {
			t.Fatalf("%d is in %d of %v, Meet is %v", x, count, list, meet)
		}
		if count > 0 && !span.Has(hull, x) {
			t.Fatalf("%d is in %d of %v, Hull is %v", x, count, list, hull)
		}
	}
}

// TestShift is P3.1's Shift: either end by its own number, clipped ahead of the sum and behind it.
func TestShift(t *testing.T) {
	most := api.Most
	for _, c := range []struct {
		s      api.Span
		lo, hi int
		want   api.Span
	}{
		{api.Span{Lo: 4, Hi: 5}, -1, 2, api.Span{Lo: 3, Hi: 7}}, {api.Span{Lo: 4, Hi: 5}, 0, 0, api.Span{Lo: 4, Hi: 5}}, {api.Span{Lo: -4, Hi: 5}, 10, 10, api.Span{Lo: 6, Hi: 15}},
		{api.Span{Lo: 1, Hi: 3}, 5, -5, api.Span{Lo: 6, Hi: -2}}, {api.Span{Lo: 3, Hi: 2}, -1, 1, api.Span{Lo: 2, Hi: 3}},
		{span.All(), -1, 1, span.All()}, {span.All(), 1, -1, api.Span{Lo: 1 - most, Hi: most - 1}},
		{api.Span{Lo: math.MinInt, Hi: math.MaxInt}, 1, -1, api.Span{Lo: 1 - most, Hi: most - 1}}, {api.Span{Lo: 7, Hi: 9}, math.MinInt, math.MaxInt, api.Span{Lo: 7 - most, Hi: most}},
		{api.Span{Lo: math.MaxInt, Hi: math.MinInt}, math.MaxInt, math.MinInt, api.Span{Lo: most, Hi: -most}}, {api.Span{Lo: math.MaxInt, Hi: math.MinInt}, math.MinInt, math.MaxInt, api.Span{}},
	} {
		if got := span.Shift(c.s, c.lo, c.hi); got != c.want {
			t.Errorf("Shift(%v, %d, %d) is %v, not %v", c.s, c.lo, c.hi, got, c.want)
		}
	}
	for i, s := range spans(edges()) {
		lo, hi := edges()[i%27], edges()[i*5%27]
		if got, want := span.Shift(s, lo, hi), (api.Span{Lo: sat.Add(s.Lo, lo), Hi: sat.Add(s.Hi, hi)}); got != want {
			t.Errorf("Shift(%v, %d, %d) is %v, not %v", s, lo, hi, got, want)
		}
	}
}

// TestWide is P3.1's Wide.
func TestWide(t *testing.T) {
	most := api.Most
	for _, c := range []struct {
		s    api.Span
		want int
	}{
		{api.Span{Lo: 1, Hi: 5}, 4}, {api.Span{Lo: -5, Hi: 5}, 10}, {api.Span{Lo: 5, Hi: 5}, 0}, {api.Span{}, 0}, {api.Span{Lo: 3, Hi: 2}, -1}, {api.Span{Lo: 30, Hi: -20}, -1},
		{span.All(), most}, {api.Span{Hi: most}, most}, {api.Span{Lo: 1, Hi: most}, most - 1}, {api.Span{Lo: -1, Hi: most - 1}, most}, {api.Span{Lo: -1, Hi: most}, most}, {api.Span{Lo: -1 << 60, Hi: 1 << 60}, most}, {api.Span{Lo: 1 - 1<<60, Hi: 1 << 60}, most - 1},
		{api.Span{Lo: most, Hi: -most}, -1}, {api.Span{Lo: math.MaxInt, Hi: math.MinInt}, -1}, {api.Span{Lo: math.MinInt, Hi: math.MaxInt}, most}, {api.Span{Lo: most - 5, Hi: math.MaxInt}, 5}, {api.Span{Lo: math.MinInt, Hi: 5 - most}, 5},
		// Beyond api.Most: ends that clipped are one time.
		{api.Span{Lo: most + 1, Hi: most + 9}, 0}, {api.Span{Lo: math.MinInt, Hi: -most - 1}, 0}, {api.Span{Lo: most + 9, Hi: most + 1}, -1}, {api.Span{Lo: -most - 1, Hi: math.MinInt}, -1},
	} {
		if got := span.Wide(c.s); got != c.want {
			t.Errorf("Wide(%v) is %d, not %d", c.s, got, c.want)
		}
	}
}

// TestMid is P3.1's Mid: down on both sides of 0, of spans with nothing in them, too, and clipped ends, not a clipped sum.
func TestMid(t *testing.T) {
	most := api.Most
	for _, c := range []struct {
		s    api.Span
		want int
	}{
		{api.Span{Lo: 3, Hi: 6}, 4}, {api.Span{Lo: 3, Hi: 7}, 5}, {api.Span{Lo: 4, Hi: 4}, 4}, {api.Span{Lo: -4, Hi: -1}, -3}, {api.Span{Lo: -1, Hi: 0}, -1}, {api.Span{Lo: 0, Hi: 1}, 0}, {api.Span{Lo: -2, Hi: 1}, -1}, {api.Span{Lo: -1, Hi: 2}, 0},
		{api.Span{Lo: 7, Hi: 2}, 4}, {api.Span{Lo: 2, Hi: -7}, -3}, {api.Span{Lo: most, Hi: -most}, 0},
		{span.All(), 0}, {api.Span{Lo: most, Hi: most}, most}, {api.Span{Lo: -most, Hi: -most}, -most}, {api.Span{Lo: most - 1, Hi: most}, most - 1}, {api.Span{Lo: -most, Hi: 1 - most}, -most}, {api.Span{Lo: 1 << 60, Hi: most}, 3 << 59},
		{api.Span{Lo: math.MinInt, Hi: math.MaxInt}, 0}, {api.Span{Lo: math.MaxInt, Hi: math.MaxInt}, most}, {api.Span{Lo: math.MinInt, Hi: math.MinInt}, -most}, {api.Span{Lo: 0, Hi: math.MaxInt}, 1 << 60}, {api.Span{Lo: math.MinInt, Hi: 1}, -1 << 60}, {api.Span{Lo: most + 4, Hi: most + 8}, most},
	} {
		if got := span.Mid(c.s); got != c.want {
			t.Errorf("Mid(%v) is %d, not %d", c.s, got, c.want)
		}
	}
	for _, s := range spans(edges()) {
		sum := new(big.Int).Add(big.NewInt(int64(clip(s.Lo))), big.NewInt(int64(clip(s.Hi))))
		// A divisor above 0: big's Div is down.
		if want := new(big.Int).Div(sum, big.NewInt(2)).Int64(); int64(span.Mid(s)) != want {
			t.Errorf("Mid(%v) is %d, not %d", s, span.Mid(s), want)
		}
	}
}

// TestMidIsIn is P3.2's Mid: in a span that isn't empty, and not further from either end than half its width, up.
func TestMidIsIn(t *testing.T) {
	near := within()
	for x := -20; x <= 20; x++ {
		near = append(near, x)
	}
	for _, s := range spans(near) {
		if s.Lo > s.Hi {
			continue
		}
		mid := span.Mid(s)
		// Ends within api.Most part by 2^62 at most, which an int holds.
		half := (s.Hi - s.Lo + 1) / 2
		if !span.Has(s, mid) || mid-s.Lo > half || s.Hi-mid > half {
			t.Errorf("Mid(%v) is %d", s, mid)
		}
	}
}

// TestListsStay is rule 3: what is handed in isn't changed, spare room included.
func TestListsStay(t *testing.T) {
	room := []api.Span{{Lo: 9, Hi: math.MaxInt}, {Lo: 5, Hi: 1}, {Lo: math.MinInt, Hi: 12}, {Lo: 77, Hi: 78}}
	kept := slices.Clone(room)
	span.Meet(room[:3]...)
	span.Hull(room[:3]...)
	if !slices.Equal(room, kept) {
		t.Errorf("lists became %v", room)
	}
}
