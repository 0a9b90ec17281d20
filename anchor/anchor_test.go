package anchor_test

import (
	"math"
	"math/rand"
	"slices"
	"testing"

	"clepsydra/anchor"
	"clepsydra/api"
	"clepsydra/carry"
	"clepsydra/limit"
)

const most = api.Most

// edges are ordinary numbers, those around where readings, beats and numbers end, and those far beyond.
func edges() []int {
	return []int{math.MinInt, math.MinInt + 1, -1 << 62, -most - 1, -most, -most + 1, -1<<60 - 1, -1 << 60, -1<<60 + 1, -1<<30 - 1, -1 << 30, -1000, -2, -1,
		0, 1, 2, 3, 1000, 1<<30 - 2, 1<<30 - 1, 1 << 30, 1<<30 + 1, 1 << 40, 1<<60 - 1, 1 << 60, 1<<60 + 1, most - 1, most, most + 1, 1 << 62, math.MaxInt - 1, math.MaxInt}
}

func clip(x int) int { return min(max(x, -most), most) }

func modelSeen(eps, reading int) (api.Span, bool) {
	if reading > 1<<60 || reading < -1<<60 || eps < 0 {
		return api.Span{}, false
	}
	// 2^60 and 2^61 make less than an int holds.
	return api.Span{Lo: clip(reading - clip(eps)), Hi: clip(reading + clip(eps))}, true
}

func modelMore(held int) int {
	switch {
	case held < 0:
		return 0
	case held >= 1<<30:
		return 1 << 30
	}
	return held + 1
}

func modelHeld(f int, list []int) (int, bool) {
	if f < 0 || f >= len(list) {
		return 1 << 30, false
	}
	return modelMore(slices.Sorted(slices.Values(list))[f]), true
}

func modelFuse(f int, list []api.Span) (api.Span, bool) {
	n := len(list)
	// Of a list's own length at most, f can be doubled.
	if f < 0 || f > n || n < 2*f+1 {
		return api.Span{}, false
	}
	var los, his []int
	for _, s := range list {
		los, his = append(los, s.Lo), append(his, s.Hi)
	}
	slices.Sort(los)
	slices.Sort(his)
	lo, hi := los[n-1-f], his[f]
	if lo > hi {
		return api.Span{}, false
	}
	return api.Span{Lo: clip(lo), Hi: clip(hi)}, true
}

func checkSeen(t *testing.T, eps, reading int) {
	t.Helper()
	got, ok := anchor.Seen(api.Params{Eps: eps}, reading)
	if want, is := modelSeen(eps, reading); got != want || ok != is {
		t.Fatalf("of Eps %d Seen(%d) is %v, %v, not %v, %v", eps, reading, got, ok, want, is)
	}
}

func checkHeld(t *testing.T, f int, list []int) {
	t.Helper()
	got, ok := anchor.Held(api.Params{F: f}, list...)
	if want, is := modelHeld(f, list); got != want || ok != is {
		t.Fatalf("of F %d Held of %v is %d, %v, not %d, %v", f, list, got, ok, want, is)
	}
}

func checkFuse(t *testing.T, f int, list []api.Span) {
	t.Helper()
	got, ok := anchor.Fuse(api.Params{F: f}, list...)
	if want, is := modelFuse(f, list); got != want || ok != is {
		t.Fatalf("of F %d Fuse of %v is %v, %v, not %v, %v", f, list, got, ok, want, is)
	}
}

// TestExamples are the chapter's examples.
func TestExamples(t *testing.T) {
	if s, ok := anchor.Seen(api.Params{Eps: 50}, 1000); s != (api.Span{Lo: 950, Hi: 1050}) || !ok {
		t.Errorf("Seen is %v, %v", s, ok)
	}
	if n, ok := anchor.Held(api.Params{F: 1}, 7, 3, 9); n != 8 || !ok {
		t.Errorf("Held is %d, %v", n, ok)
	}
}

// TestSeen is P16.1's Seen, worked out by hand: ordinary readings, the last ones that are and the first ones that are none, errors that no reference has, and where a sum is clipped.
func TestSeen(t *testing.T) {
	for _, c := range []struct {
		eps, reading int
		want         api.Span
		ok           bool
	}{
		{50, 5000, api.Span{Lo: 4950, Hi: 5050}, true}, {50, -1000, api.Span{Lo: -1050, Hi: -950}, true}, {50, 0, api.Span{Lo: -50, Hi: 50}, true}, {50, 20, api.Span{Lo: -30, Hi: 70}, true},
		{1, 7, api.Span{Lo: 6, Hi: 8}, true}, {0, 7, api.Span{Lo: 7, Hi: 7}, true}, {0, 0, api.Span{}, true}, {1 << 40, 3, api.Span{Lo: 3 - 1<<40, Hi: 3 + 1<<40}, true},
		// The ends of what is read.
		{50, 1 << 60, api.Span{Lo: 1<<60 - 50, Hi: 1<<60 + 50}, true}, {50, -1 << 60, api.Span{Lo: -1<<60 - 50, Hi: -1<<60 + 50}, true}, {0, 1 << 60, api.Span{Lo: 1 << 60, Hi: 1 << 60}, true},
		{50, 1<<60 + 1, api.Span{}, false}, {50, -1<<60 - 1, api.Span{}, false}, {0, 1<<60 + 1, api.Span{}, false}, {50, 1<<60 + 50, api.Span{}, false},
		{50, most, api.Span{}, false}, {50, -most, api.Span{}, false}, {50, 1 << 62, api.Span{}, false}, {50, math.MaxInt, api.Span{}, false}, {50, math.MinInt, api.Span{}, false}, {50, math.MinInt + 1, api.Span{}, false},
		// An error below 0, of a reading and of none.
		{-1, 0, api.Span{}, false}, {-1, 1000, api.Span{}, false}, {-50, -1000, api.Span{}, false}, {-most, 0, api.Span{}, false}, {math.MinInt, 5, api.Span{}, false}, {-1, math.MaxInt, api.Span{}, false},
		// An error that no fabric has: the ends stay at api.Most, and the error does ahead of them.
		{1 << 60, 1 << 60, api.Span{Lo: 0, Hi: most}, true}, {1<<60 + 1, 1 << 60, api.Span{Lo: -1, Hi: most}, true}, {1<<60 + 1, -1 << 60, api.Span{Lo: -most, Hi: 1}, true},
		{most, 0, api.Span{Lo: -most, Hi: most}, true}, {most, 5, api.Span{Lo: -most + 5, Hi: most}, true}, {most, -5, api.Span{Lo: -most, Hi: most - 5}, true},
		{most + 1, 5, api.Span{Lo: -most + 5, Hi: most}, true}, {math.MaxInt, 5, api.Span{Lo: -most + 5, Hi: most}, true}, {math.MaxInt, -1 << 60, api.Span{Lo: -most, Hi: 1 << 60}, true},
	} {
		if got, ok := anchor.Seen(api.Params{Eps: c.eps}, c.reading); got != c.want || ok != c.ok {
			t.Errorf("of Eps %d Seen(%d) is %v, %v, not %v, %v", c.eps, c.reading, got, ok, c.want, c.ok)
		}
	}
}

// TestMore is P16.1's More, worked out by hand: both ends, and beyond them.
func TestMore(t *testing.T) {
	for _, c := range []struct{ held, want int }{
		{0, 1}, {1, 2}, {5, 6}, {1 << 20, 1<<20 + 1}, {1<<30 - 3, 1<<30 - 2}, {1<<30 - 2, 1<<30 - 1}, {1<<30 - 1, 1 << 30}, {1 << 30, 1 << 30}, {1<<30 + 1, 1 << 30},
		{1 << 40, 1 << 30}, {most - 1, 1 << 30}, {most, 1 << 30}, {math.MaxInt - 1, 1 << 30}, {math.MaxInt, 1 << 30},
		{-1, 0}, {-2, 0}, {-9, 0}, {-1 << 30, 0}, {-most, 0}, {math.MinInt + 1, 0}, {math.MinInt, 0},
	} {
		if got := anchor.More(c.held); got != c.want {
			t.Errorf("More(%d) is %d, not %d", c.held, got, c.want)
		}
	}
}

// TestHeld is P16.1's Held, worked out by hand: each place and one beyond, any order, the same number twice, beats at their ends, and an F that no fabric has.
func TestHeld(t *testing.T) {
	for _, c := range []struct {
		f    int
		list []int
		want int
		ok   bool
	}{
		{1, []int{3, 7, 9}, 8, true}, {1, []int{9, 7, 3}, 8, true}, {0, []int{7, 3, 9}, 4, true}, {2, []int{7, 3, 9}, 10, true}, {3, []int{7, 3, 9}, 1 << 30, false},
		{1, []int{7, 7, 9}, 8, true}, {1, []int{3, 3, 9}, 4, true}, {1, []int{0, 0, 0}, 1, true}, {2, []int{5, 1, 4, 2, 3}, 4, true},
		// As many as Least needs are enough, and one fewer isn't.
		{0, []int{7}, 8, true}, {1, []int{7, 3}, 8, true}, {1, []int{7}, 1 << 30, false}, {0, nil, 1 << 30, false}, {0, []int{}, 1 << 30, false}, {5, []int{1, 2, 3, 4, 5}, 1 << 30, false}, {5, []int{1, 2, 3, 4, 5, 6}, 7, true},
		{-1, []int{7, 3, 9}, 1 << 30, false}, {-1, nil, 1 << 30, false}, {math.MinInt, []int{7}, 1 << 30, false}, {1 << 62, []int{7, 3, 9}, 1 << 30, false}, {math.MaxInt, []int{7, 3, 9}, 1 << 30, false},
		// What is told is bound, and no more so ahead of its place being looked for.
		{0, []int{1<<30 - 2}, 1<<30 - 1, true}, {0, []int{1<<30 - 1}, 1 << 30, true}, {0, []int{1 << 30}, 1 << 30, true}, {0, []int{math.MaxInt}, 1 << 30, true}, {1, []int{math.MaxInt, 4, math.MinInt}, 5, true},
		{0, []int{-1}, 0, true}, {0, []int{-7}, 0, true}, {0, []int{math.MinInt}, 0, true}, {1, []int{-5, -1, 0}, 0, true}, {1, []int{-5, 0, -9, 3}, 0, true}, {2, []int{-5, 0, -9, 3}, 1, true},
	} {
		if got, ok := anchor.Held(api.Params{F: c.f}, c.list...); got != c.want || ok != c.ok {
			t.Errorf("of F %d Held of %v is %d, %v, not %d, %v", c.f, c.list, got, ok, c.want, c.ok)
		}
	}
}

// TestFuse is P16.1's Fuse, worked out by hand: how many are enough, any order, what is left at all, spans with nothing in them, ends beyond api.Most, and an F that no fabric has.
func TestFuse(t *testing.T) {
	a, b, far := api.Span{Lo: 0, Hi: 10}, api.Span{Lo: 5, Hi: 12}, api.Span{Lo: 100, Hi: 200}
	for _, c := range []struct {
		f    int
		list []api.Span
		want api.Span
		ok   bool
	}{
		{1, []api.Span{a, b, far}, api.Span{Lo: 5, Hi: 12}, true}, {1, []api.Span{far, b, a}, api.Span{Lo: 5, Hi: 12}, true}, {0, []api.Span{a, b}, api.Span{Lo: 5, Hi: 10}, true}, {0, []api.Span{a}, a, true},
		{1, []api.Span{a, b, a, b}, api.Span{Lo: 5, Hi: 10}, true}, {2, []api.Span{a, far, b, a, far}, api.Span{Lo: 5, Hi: 12}, true}, {0, []api.Span{{Lo: 7, Hi: 7}, a}, api.Span{Lo: 7, Hi: 7}, true},
		// Too few.
		{1, []api.Span{a, b}, api.Span{}, false}, {2, []api.Span{a, b, a, b}, api.Span{}, false}, {1, nil, api.Span{}, false}, {0, nil, api.Span{}, false}, {0, []api.Span{}, api.Span{}, false},
		{-1, []api.Span{a, b}, api.Span{}, false}, {-1, []api.Span{a, b, far}, api.Span{}, false}, {math.MinInt, []api.Span{a, b, far}, api.Span{}, false}, {1 << 62, []api.Span{a, b, far}, api.Span{}, false}, {math.MaxInt, []api.Span{a, b, far}, api.Span{}, false},
		// They part, or just don't.
		{0, []api.Span{a, far}, api.Span{}, false}, {0, []api.Span{a, {Lo: 11, Hi: 12}}, api.Span{}, false}, {0, []api.Span{a, {Lo: 10, Hi: 12}}, api.Span{Lo: 10, Hi: 10}, true}, {1, []api.Span{a, {Lo: 20, Hi: 30}, {Lo: 40, Hi: 50}, {Lo: 60, Hi: 70}}, api.Span{}, false},
		{0, []api.Span{{Lo: 5, Hi: 4}}, api.Span{}, false}, {1, []api.Span{{Lo: 9, Hi: 1}, a, b}, api.Span{Lo: 5, Hi: 10}, true},
		// The ends stay at api.Most, and are held against one another as they are told.
		{0, []api.Span{{Lo: math.MinInt, Hi: math.MaxInt}}, api.Span{Lo: -most, Hi: most}, true}, {0, []api.Span{{Lo: most + 1, Hi: most + 3}}, api.Span{Lo: most, Hi: most}, true}, {0, []api.Span{{Lo: most + 3, Hi: most + 1}}, api.Span{}, false},
		{1, []api.Span{{Lo: math.MinInt, Hi: -most - 5}, {Lo: -most - 7, Hi: -most - 5}, far}, api.Span{Lo: -most, Hi: -most}, true},
	} {
		if got, ok := anchor.Fuse(api.Params{F: c.f}, c.list...); got != c.want || ok != c.ok {
			t.Errorf("of F %d Fuse of %v is %v, %v, not %v, %v", c.f, c.list, got, ok, c.want, c.ok)
		}
	}
}

// wild is any number: small, at an edge, or any at all.
func wild(r *rand.Rand) int {
	switch r.Intn(4) {
	case 0:
		return edges()[r.Intn(len(edges()))]
	case 1:
		return int(r.Uint64())
	}
	return r.Intn(41) - 20
}

// TestOfAll is P16.1 of all numbers, against a model.
func TestOfAll(t *testing.T) {
	for _, a := range edges() {
		if got, want := anchor.More(a), modelMore(a); got != want {
			t.Fatalf("More(%d) is %d, not %d", a, got, want)
		}
		for _, b := range edges() {
			checkSeen(t, a, b)
			checkHeld(t, a, []int{b, 3, 9})
			checkFuse(t, a, []api.Span{{Lo: b, Hi: 9}, {Lo: -3, Hi: b}, {Lo: 1, Hi: 2}})
			for f := -1; f <= 2; f++ {
				checkHeld(t, f, []int{a, b})
				checkHeld(t, f, []int{5, a, b})
				checkFuse(t, f, []api.Span{{Lo: a, Hi: b}})
				checkFuse(t, f, []api.Span{{Lo: a, Hi: b}, {Lo: b, Hi: a}, {Lo: -5, Hi: 5}})
			}
		}
	}
	r := rand.New(rand.NewSource(16))
	for i := range 20000 {
		checkSeen(t, wild(r), wild(r))
		var beats []int
		var spans []api.Span
		for range i % 18 {
			beats, spans = append(beats, wild(r)), append(spans, api.Span{Lo: wild(r), Hi: wild(r)})
		}
		f := r.Intn(20) - 1
		checkHeld(t, f, beats)
		checkFuse(t, f/2, spans)
	}
}

// TestOtherNumbers is P16.1: of a fabric's numbers Eps has a say in Seen, F in Fuse and Held, and no other.
func TestOtherNumbers(t *testing.T) {
	for _, n := range edges() {
		p := api.Params{N: n, F: n, D: n, Beat: n, Rho: n, Delay: n, Jitter: n, Eps: n, Mu: n, Hold: n, Pulse: n, Second: n}
		p.Eps = 50
		if s, ok := anchor.Seen(p, 1000); s != (api.Span{Lo: 950, Hi: 1050}) || !ok {
			t.Errorf("of %+v Seen is %v, %v", p, s, ok)
		}
		p.F, p.Eps = 1, n
		if s, ok := anchor.Fuse(p, api.Span{Lo: 0, Hi: 10}, api.Span{Lo: 5, Hi: 12}, api.Span{Lo: 100, Hi: 200}); s != (api.Span{Lo: 5, Hi: 12}) || !ok {
			t.Errorf("of %+v Fuse is %v, %v", p, s, ok)
		}
		if held, ok := anchor.Held(p, 7, 3, 9); held != 8 || !ok {
			t.Errorf("of %+v Held is %d, %v", p, held, ok)
		}
	}
}

// fabrics are numbers that a fabric may have, at the ends of what it may, too.
func fabrics(t *testing.T) []api.Params {
	t.Helper()
	var all []api.Params
	for f := range 6 {
		for _, beat := range []int{8, 1000, 1 << 40} {
			for _, rho := range []int{0, 1, beat / 8} {
				for _, delay := range []int{0, beat/2 - 1, beat / 2} {
					for _, jitter := range []int{0, delay / 10, delay} {
						for _, eps := range []int{0, 50, 1 << 40} {
							p := api.Params{N: api.MaxGates, F: f, D: 2, Beat: beat, Rho: rho, Delay: delay, Jitter: jitter, Eps: eps, Mu: rho + 1, Hold: 5, Pulse: 5000, Second: 1000}
							if limit.Check(p) != api.OK {
								t.Fatalf("no fabric has %+v", p)
							}
							all = append(all, p)
						}
					}
				}
			}
		}
	}
	return all
}

// one is either end, or what is between.
func one(r *rand.Rand, lo, hi int) int {
	return []int{lo, hi, lo + r.Intn(hi-lo+1)}[r.Intn(3)]
}

// sees is what a right gateway sees of a time.
func sees(t *testing.T, p api.Params, now, off int) api.Span {
	t.Helper()
	s, ok := anchor.Seen(p, now+off)
	if !ok || now < s.Lo || now > s.Hi || s.Hi-s.Lo != 2*p.Eps {
		t.Fatalf("of Eps %d Seen(%d) is %v, %v, and the time is %d", p.Eps, now+off, s, ok, now)
	}
	return s
}

// tells is what becomes of what a right gateway saw a beat ago, by any way and any ticks since.
func tells(t *testing.T, r *rand.Rand, p api.Params, now int) api.Span {
	t.Helper()
	s := sees(t, p, now-p.Beat, one(r, -p.Eps, p.Eps))
	return carry.Way(p, s, p.Beat-one(r, p.Delay-p.Jitter, p.Delay)+one(r, -p.Rho, p.Rho))
}

// lies is any span: near the time, of which it may have nothing, or anywhere.
func lies(r *rand.Rand, p api.Params, now int) api.Span {
	reach := p.Eps + limit.Hop(p) + 3
	switch r.Intn(4) {
	case 0:
		return api.Span{Lo: wild(r), Hi: wild(r)}
	case 1:
		return api.Span{Lo: math.MinInt, Hi: math.MaxInt}
	case 2:
		return api.Span{Lo: now + one(r, 1, reach), Hi: now + one(r, 1, 2*reach)}
	}
	return api.Span{Lo: now - one(r, 1, 2*reach), Hi: now - one(r, 1, reach)}
}

// fused holds what is fused to P16.2: right are spans that have the time, wrong are any.
func fused(t *testing.T, p api.Params, now int, right, wrong []api.Span) {
	t.Helper()
	s, ok := anchor.Fuse(p, append(slices.Clone(wrong), right...)...)
	if !ok || now < s.Lo || now > s.Hi {
		t.Fatalf("of %+v Fuse of %v and %v is %v, %v, and the time is %d", p, right, wrong, s, ok, now)
	}
	if len(right) >= 2*p.F+1 && s.Hi-s.Lo > 2*p.Eps+limit.Hop(p) {
		t.Fatalf("of %+v Fuse of %v and %v is %v, which is too wide", p, right, wrong, s)
	}
}

// TestTimeIsInFuse is P16.2: over numbers of fabrics, by all ways, and whatever up to F others tell, be one's own reading among those that are right, or not.
func TestTimeIsInFuse(t *testing.T) {
	r := rand.New(rand.NewSource(162))
	for _, p := range fabrics(t) {
		for _, bad := range []int{0, r.Intn(p.F + 1), p.F} {
			for _, n := range []int{2*p.F + 1, 2*p.F + 1 + bad, 3*p.F + 1, p.N} {
				// The readings stay within 2^60.
				now := []int{0, -1000, 1<<60 - p.Eps, -1<<60 + p.Eps + p.Beat, r.Intn(1 << 59)}[r.Intn(5)]
				var right, wrong []api.Span
				if r.Intn(2) == 0 {
					right = append(right, sees(t, p, now, one(r, -p.Eps, p.Eps)))
				}
				for len(right) < n-bad {
					right = append(right, tells(t, r, p, now))
				}
				for range bad {
					wrong = append(wrong, lies(r, p, now))
				}
				fused(t, p, now, right, wrong)
			}
		}
	}
}

// TestTimeIsInFuseOfFew is P16.2 of one small fabric: of all that three right gateways may tell, and of two with a fourth that tells of whatever is around it.
func TestTimeIsInFuseOfFew(t *testing.T) {
	p := api.Params{N: 4, F: 1, D: 2, Beat: 8, Rho: 1, Delay: 4, Jitter: 2, Eps: 2, Mu: 2, Hold: 5, Pulse: 5000, Second: 1000}
	if limit.Check(p) != api.OK {
		t.Fatalf("no fabric has %+v", p)
	}
	var told, said []api.Span
	for off := -2; off <= 2; off += 2 {
		told = append(told, sees(t, p, 0, off))
		for way := 2; way <= 4; way++ {
			for drift := -1; drift <= 1; drift += 2 {
				told = append(told, carry.Way(p, sees(t, p, -8, off), 8-way+drift))
			}
		}
	}
	for lo := -12; lo <= 12; lo++ {
		for hi := -12; hi <= 12; hi++ {
			said = append(said, api.Span{Lo: lo, Hi: hi})
		}
	}
	for _, a := range told {
		for _, b := range told {
			for _, c := range told {
				fused(t, p, 0, []api.Span{a, b, c}, nil)
			}
			for _, s := range said {
				fused(t, p, 0, []api.Span{a, b}, []api.Span{s})
				fused(t, p, 0, []api.Span{a, b, b}, []api.Span{s})
			}
		}
	}
}

// anchored holds Held to P16.3: right are beats from one to another, wrong are any.
func anchored(t *testing.T, r *rand.Rand, f int, right, wrong []int) {
	t.Helper()
	list := append(slices.Clone(wrong), right...)
	r.Shuffle(len(list), func(i, j int) { list[i], list[j] = list[j], list[i] })
	got, ok := anchor.Held(api.Params{F: f}, list...)
	if !ok || got < slices.Min(right)+1 || got > slices.Max(right)+1 {
		t.Fatalf("of F %d Held of %v is %d, %v: right ones tell %v", f, list, got, ok, right)
	}
}

// TestHeldIsBetween is P16.3: whatever up to F others tell, Held is one more than from the first to the last of what those tell who are right; they are more than F.
func TestHeldIsBetween(t *testing.T) {
	r := rand.New(rand.NewSource(163))
	for f := range 6 {
		for bad := range f + 1 {
			for good := f + 1; good <= api.MaxGates-bad; good++ {
				for range 40 {
					from := []int{0, 1, 5, 1<<30 - 40, r.Intn(1 << 29)}[r.Intn(5)]
					to := from + r.Intn(40)
					right, wrong := make([]int, good), make([]int, bad)
					for i := range right {
						right[i] = one(r, from, to)
					}
					// All lies on one side, or any.
					side := []int{0, math.MinInt, math.MaxInt, 1 << 30, from - 1, to + 1}[r.Intn(6)]
					for i := range wrong {
						if wrong[i] = side; r.Intn(2) == 0 {
							wrong[i] = wild(r)
						}
					}
					anchored(t, r, f, right, wrong)
				}
			}
		}
	}
}

// TestHeldIsOne is P16.3 where all who are right tell the same: Held is one more, whatever one other tells.
func TestHeldIsOne(t *testing.T) {
	r := rand.New(rand.NewSource(164))
	for _, lie := range edges() {
		for _, held := range []int{0, 1, 5, 1<<30 - 1} {
			anchored(t, r, 1, []int{held, held}, []int{lie})
			anchored(t, r, 1, []int{held, held, held}, []int{lie})
			anchored(t, r, 2, []int{held, held, held}, []int{lie, -1})
			anchored(t, r, 2, []int{held, held, held}, []int{lie, lie})
		}
	}
}

// TestListsStay is P16.1 by rule 3: what is handed in isn't changed, spare room included.
func TestListsStay(t *testing.T) {
	beats := []int{9, 1, 5, 3, 7, 77, -78}
	spans := []api.Span{{Lo: 4, Hi: math.MaxInt}, {Lo: 1, Hi: 5}, {Lo: math.MinInt, Hi: 12}, {Lo: 7, Hi: 8}, {Lo: -2, Hi: -1}}
	kept, keptSpans := slices.Clone(beats), slices.Clone(spans)
	for f := -1; f <= 3; f++ {
		anchor.Held(api.Params{F: f}, beats[:5]...)
		anchor.Fuse(api.Params{F: f}, spans[:3]...)
	}
	if !slices.Equal(beats, kept) || !slices.Equal(spans, keptSpans) {
		t.Errorf("lists became %v, %v", beats, spans)
	}
}

// TestNothingIsKept is P16.1 by rules 3 and 4: a list that the caller writes into is, the next time, what it is by then.
func TestNothingIsKept(t *testing.T) {
	beats, spans := make([]int, 3), make([]api.Span, 3)
	for x := range 10 {
		for i := range 3 {
			beats[i], spans[i] = x+i, api.Span{Lo: x - i, Hi: x + 10*i}
		}
		if got, ok := anchor.Held(api.Params{F: 1}, beats...); got != x+2 || !ok {
			t.Errorf("Held of %v is %d, %v", beats, got, ok)
		}
		if got, ok := anchor.Fuse(api.Params{F: 1}, spans...); got != (api.Span{Lo: x - 1, Hi: x + 10}) || !ok {
			t.Errorf("Fuse of %v is %v, %v", spans, got, ok)
		}
	}
}
