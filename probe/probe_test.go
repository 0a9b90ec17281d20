package probe_test

import (
	"math"
	"math/rand"
	"slices"
	"testing"

	"clepsydra/api"
	"clepsydra/limit"
	"clepsydra/probe"
)

const most = api.Most

// edges are ordinary numbers, those around where clipping begins, and those far beyond.
func edges() []int {
	return []int{math.MinInt, math.MinInt + 1, -1 << 62, -most - 1, -most, -most + 1, -most + 100, -1 << 60, -1000, -7, -1,
		0, 1, 2, 10, 100, 1000, 1 << 40, 1 << 59, 1 << 60, 1<<60 + 1, most - 100, most - 1, most, most + 1, 1 << 62, math.MaxInt - 1, math.MaxInt}
}

// near are the numbers of the chapter's example.
func near() api.Params { return api.Params{Delay: 100, Jitter: 10} }

func clip(x int) int { return min(max(x, -most), most) }

func sum(a, b int) int { return clip(clip(a) + clip(b)) }

func less(a, b int) int { return clip(clip(a) - clip(b)) }

// model is the chapter's Ahead, end by end.
func model(p api.Params, t probe.Trip) api.Span {
	there, back := less(t.Got, t.Asked), less(t.Said, t.Heard)
	least, drift := less(p.Delay, p.Jitter), sum(p.Rho, p.Rho)
	return api.Span{
		Lo: max(less(less(there, p.Delay), drift), less(sum(back, least), drift)),
		Hi: min(sum(less(there, least), drift), sum(sum(back, p.Delay), drift)),
	}
}

func none(s api.Span) bool { return s.Lo > s.Hi }

// modelBest looks for the width first, and for the first one of it then.
func modelBest(p api.Params, list []probe.Trip) (api.Span, bool) {
	var widths []int
	for _, t := range list {
		if s := model(p, t); !none(s) {
			widths = append(widths, less(s.Hi, s.Lo))
		}
	}
	for _, t := range list {
		if s := model(p, t); !none(s) && less(s.Hi, s.Lo) == slices.Min(widths) {
			return s, true
		}
	}
	return api.Span{}, false
}

// someTrip is one whose numbers are edges, or near one another, so that some aren't empty.
func someTrip(r *rand.Rand) probe.Trip {
	n := func() int {
		if r.Intn(3) > 0 {
			return edges()[r.Intn(len(edges()))]
		}
		return r.Intn(200)
	}
	t := probe.Trip{Asked: n(), Got: n(), Said: n(), Heard: n()}
	if r.Intn(2) == 0 {
		// Both ways tell about the same.
		t.Said, t.Heard = t.Got, t.Asked
		if t.Heard < math.MaxInt-200 {
			t.Heard += r.Intn(200)
		}
	}
	return t
}

func someParams(r *rand.Rand) api.Params {
	n := func() int {
		if r.Intn(2) == 0 {
			return edges()[r.Intn(len(edges()))]
		}
		return r.Intn(120)
	}
	return api.Params{Delay: n(), Jitter: n(), Rho: n()}
}

// check holds one trip's Ahead and Right against the model.
func check(t *testing.T, p api.Params, x probe.Trip) {
	t.Helper()
	want := model(p, x)
	if got := probe.Ahead(p, x); got != want {
		t.Fatalf("Ahead(%+v, %+v) is %v, not %v", p, x, got, want)
	}
	if got := probe.Right(p, x); got == none(want) {
		t.Fatalf("Right(%+v, %+v) is %v, of %v", p, x, got, want)
	}
}

// TestExample is the chapter's example.
func TestExample(t *testing.T) {
	x := probe.Trip{Asked: 0, Got: 1095, Said: 1200, Heard: 300}
	if got := probe.Ahead(near(), x); got != (api.Span{Lo: 995, Hi: 1000}) {
		t.Errorf("Ahead is %v", got)
	}
	if !probe.Right(near(), x) {
		t.Error("Right is false")
	}
	if got, ok := probe.Best(near(), x); !ok || got != (api.Span{Lo: 995, Hi: 1000}) {
		t.Errorf("Best is %v, %v", got, ok)
	}
}

// TestAhead is P10.1's Ahead of ordinary trips, worked out by hand: each end comes from either way.
func TestAhead(t *testing.T) {
	for _, c := range []struct {
		p    api.Params
		x    probe.Trip
		want api.Span
	}{
		// [1000, 1010] and [990, 1000], then [990, 1000] and [1000, 1010]: each way has one end.
		{near(), probe.Trip{Asked: 0, Got: 1100, Said: 1200, Heard: 300}, api.Span{Lo: 1000, Hi: 1000}},
		{near(), probe.Trip{Asked: 0, Got: 1090, Said: 1200, Heard: 290}, api.Span{Lo: 1000, Hi: 1000}},
		// [995, 1005] and [998, 1008], [995, 1005] twice, and [995, 1005] and [1006, 1016].
		{near(), probe.Trip{Asked: 0, Got: 1095, Said: 1200, Heard: 292}, api.Span{Lo: 998, Hi: 1005}},
		{near(), probe.Trip{Asked: 0, Got: 1095, Said: 1200, Heard: 295}, api.Span{Lo: 995, Hi: 1005}},
		{near(), probe.Trip{Asked: 0, Got: 1095, Said: 1200, Heard: 284}, api.Span{Lo: 1006, Hi: 1005}},
		// The times themselves don't count, what is between them does.
		{near(), probe.Trip{Asked: 5000, Got: 6095, Said: -800, Heard: -1700}, api.Span{Lo: 995, Hi: 1000}},
		// The other clock is behind: [-1005, -995] and [-1010, -1000].
		{near(), probe.Trip{Asked: 2000, Got: 1095, Said: 1200, Heard: 2300}, api.Span{Lo: -1005, Hi: -1000}},
		// Drift makes both ends 2 Rho further out, be it that nothing was left.
		{api.Params{Delay: 100, Jitter: 10, Rho: 1}, probe.Trip{Got: 1095, Said: 1200, Heard: 300}, api.Span{Lo: 993, Hi: 1002}},
		{api.Params{Delay: 100, Jitter: 10, Rho: 7}, probe.Trip{Got: 1095, Said: 1200, Heard: 300}, api.Span{Lo: 981, Hi: 1014}},
		{api.Params{Delay: 100, Jitter: 10, Rho: 1}, probe.Trip{Got: 1095, Said: 1200, Heard: 284}, api.Span{Lo: 1004, Hi: 1007}},
		// No jitter, no delay, all of it jitter.
		{api.Params{Delay: 100}, probe.Trip{Got: 1100, Said: 1200, Heard: 300}, api.Span{Lo: 1000, Hi: 1000}},
		{api.Params{}, probe.Trip{Asked: 1, Got: 6, Said: 8, Heard: 3}, api.Span{Lo: 5, Hi: 5}},
		{api.Params{Delay: 50, Jitter: 50}, probe.Trip{Got: 1020, Said: 1030, Heard: 60}, api.Span{Lo: 970, Hi: 1020}},
		{api.Params{}, probe.Trip{}, api.Span{}},
		// Numbers that no fabric has: least below 0, a jitter or a drift or a delay below 0.
		{api.Params{Delay: 10, Jitter: 30}, probe.Trip{Got: 1000, Said: 1000}, api.Span{Lo: 990, Hi: 1010}},
		{api.Params{Delay: 10, Jitter: -30}, probe.Trip{Got: 1000, Said: 1000}, api.Span{Lo: 1040, Hi: 960}},
		{api.Params{Delay: 100, Jitter: 10, Rho: -1}, probe.Trip{Got: 1095, Said: 1200, Heard: 300}, api.Span{Lo: 997, Hi: 998}},
		{api.Params{Delay: -20, Jitter: 5}, probe.Trip{Got: 1000, Said: 1000, Heard: -45}, api.Span{Lo: 1020, Hi: 1025}},
	} {
		if got := probe.Ahead(c.p, c.x); got != c.want {
			t.Errorf("Ahead(%+v, %+v) is %v, not %v", c.p, c.x, got, c.want)
		}
		if got := probe.Right(c.p, c.x); got != (c.want.Lo <= c.want.Hi) {
			t.Errorf("Right(%+v, %+v) is %v", c.p, c.x, got)
		}
	}
}

// TestAheadClipped is P10.1's Ahead where layer 1 clips, worked out by hand: each sum and difference on the way is clipped for itself.
func TestAheadClipped(t *testing.T) {
	for _, c := range []struct {
		p    api.Params
		x    probe.Trip
		want api.Span
	}{
		// there and back stay at api.Most, and Delay is taken from that.
		{near(), probe.Trip{Asked: -7, Got: most, Said: most, Heard: -7}, api.Span{Lo: most, Hi: most - 90}},
		{near(), probe.Trip{Asked: math.MinInt, Got: math.MaxInt, Said: math.MaxInt, Heard: math.MinInt}, api.Span{Lo: most, Hi: most - 90}},
		{near(), probe.Trip{Asked: math.MaxInt, Got: math.MinInt, Said: math.MinInt, Heard: math.MaxInt}, api.Span{Lo: -most + 90, Hi: -most}},
		// The times are clipped ahead of their difference.
		{near(), probe.Trip{Asked: math.MaxInt, Got: math.MaxInt - 500, Said: most + 9, Heard: most - 1}, api.Span{Lo: 91, Hi: -90}},
		// there - Delay stays at -api.Most, and a drift below 0 is taken from that.
		{api.Params{Delay: 100, Jitter: 150, Rho: -10}, probe.Trip{Asked: most - 5, Said: -most}, api.Span{Lo: -most + 20, Hi: -most + 35}},
		// back + Delay stays at api.Most, likewise.
		{api.Params{Delay: 100, Jitter: 150, Rho: -10}, probe.Trip{Got: most, Said: most - 5}, api.Span{Lo: most - 35, Hi: most - 20}},
		// Drift itself stays at api.Most, and at -api.Most.
		{api.Params{Rho: 1<<60 + 5}, probe.Trip{Got: 7, Said: 7}, api.Span{Lo: 7 - most, Hi: most}},
		{api.Params{Rho: math.MinInt}, probe.Trip{Got: 7, Said: 7}, api.Span{Lo: most, Hi: 7 - most}},
		// Delay and Jitter are clipped ahead of least: it is 1, and -api.Most.
		{api.Params{Delay: math.MaxInt, Jitter: most - 1}, probe.Trip{Got: 50, Said: 20}, api.Span{Lo: 21, Hi: 49}},
		{api.Params{Delay: -5, Jitter: most}, probe.Trip{Got: 50, Said: 20}, api.Span{Lo: 55, Hi: 15}},
	} {
		if got := probe.Ahead(c.p, c.x); got != c.want {
			t.Errorf("Ahead(%+v, %+v) is %v, not %v", c.p, c.x, got, c.want)
		}
	}
}

// TestAheadOfAll is P10.1's Ahead and Right, of all numbers: each at its edges, and many together.
func TestAheadOfAll(t *testing.T) {
	for _, a := range edges() {
		for _, b := range edges() {
			for _, p := range []api.Params{near(), {Delay: 100, Jitter: 10, Rho: 3}} {
				check(t, p, probe.Trip{Asked: a, Got: b, Said: b, Heard: a})
				check(t, p, probe.Trip{Asked: a, Got: b})
				check(t, p, probe.Trip{Said: a, Heard: b})
			}
			for _, x := range []probe.Trip{{}, {Got: 1095, Said: 1200, Heard: 300}, {Got: most - 3, Said: most - 3}, {Asked: most - 3, Heard: most - 3}} {
				check(t, api.Params{Delay: a, Jitter: b}, x)
				check(t, api.Params{Delay: a, Rho: b}, x)
				check(t, api.Params{Jitter: a, Rho: b}, x)
			}
		}
	}
	r := rand.New(rand.NewSource(10))
	for range 300000 {
		check(t, someParams(r), someTrip(r))
	}
}

// TestOtherNumbers is P10.1's Ahead: of a fabric's numbers those that it doesn't name have no say.
func TestOtherNumbers(t *testing.T) {
	x := probe.Trip{Got: 1095, Said: 1200, Heard: 300}
	for _, n := range edges() {
		p := api.Params{N: n, F: n, D: n, Beat: n, Rho: 1, Delay: 100, Jitter: 10, Eps: n, Mu: n, Hold: n, Pulse: n, Second: n}
		if got := probe.Ahead(p, x); got != (api.Span{Lo: 993, Hi: 1002}) {
			t.Errorf("Ahead(%+v) is %v", p, got)
		}
		if got, ok := probe.Best(p, x); !ok || got != (api.Span{Lo: 993, Hi: 1002}) || !probe.Right(p, x) {
			t.Errorf("Best(%+v) is %v, %v", p, got, ok)
		}
	}
}

// TestRight is P10.1's Right where a tick counts: the two ways' spans just meet, or are just apart.
func TestRight(t *testing.T) {
	for rho := range 4 {
		p := near()
		p.Rho = rho
		for gap := -40; gap <= 40; gap++ {
			// The spans are [0, 10] and [gap, gap + 10].
			x := probe.Trip{Got: 100, Said: gap, Heard: 90}
			if got, want := probe.Right(p, x), gap >= -10-4*rho && gap <= 10+4*rho; got != want {
				t.Errorf("of Rho %d and %d apart Right is %v", rho, gap, got)
			}
		}
	}
}

// TestBest is P10.1's Best: the narrowest, the first of several, those that are empty passed over.
func TestBest(t *testing.T) {
	wrong, worse := probe.Trip{Got: 50, Heard: 1}, probe.Trip{Got: 500}
	five := func(hi int) probe.Trip { return probe.Trip{Got: hi + 95, Said: hi, Heard: 100} }
	two := func(hi int) probe.Trip { return probe.Trip{Got: hi + 98, Said: hi, Heard: 100} }
	sharp := func(hi int) probe.Trip { return probe.Trip{Got: hi + 100, Said: hi, Heard: 100} }
	for _, c := range []struct {
		list []probe.Trip
		want api.Span
		ok   bool
	}{
		{nil, api.Span{}, false},
		{[]probe.Trip{}, api.Span{}, false},
		{[]probe.Trip{wrong}, api.Span{}, false},
		{[]probe.Trip{wrong, worse, wrong}, api.Span{}, false},
		{[]probe.Trip{five(7)}, api.Span{Lo: 2, Hi: 7}, true},
		{[]probe.Trip{five(7), two(8)}, api.Span{Lo: 6, Hi: 8}, true},
		{[]probe.Trip{two(8), five(7)}, api.Span{Lo: 6, Hi: 8}, true},
		{[]probe.Trip{five(7), two(8), sharp(9)}, api.Span{Lo: 9, Hi: 9}, true},
		{[]probe.Trip{five(7), sharp(9), two(8)}, api.Span{Lo: 9, Hi: 9}, true},
		// Several: the first, be it the least, the greatest or neither.
		{[]probe.Trip{two(8), two(3), two(9)}, api.Span{Lo: 6, Hi: 8}, true},
		{[]probe.Trip{two(3), two(9), two(8)}, api.Span{Lo: 1, Hi: 3}, true},
		{[]probe.Trip{five(1), two(9), five(0), two(3)}, api.Span{Lo: 7, Hi: 9}, true},
		{[]probe.Trip{sharp(0), sharp(-4), two(3)}, api.Span{}, true},
		// Not right ones count for nothing, wherever they stand.
		{[]probe.Trip{wrong, five(7)}, api.Span{Lo: 2, Hi: 7}, true},
		{[]probe.Trip{five(7), wrong}, api.Span{Lo: 2, Hi: 7}, true},
		{[]probe.Trip{five(7), worse, two(-8), wrong, five(5)}, api.Span{Lo: -10, Hi: -8}, true},
		{[]probe.Trip{worse, wrong, sharp(4), worse, wrong}, api.Span{Lo: 4, Hi: 4}, true},
	} {
		if got, ok := probe.Best(near(), c.list...); got != c.want || ok != c.ok {
			t.Errorf("Best of %v is %v, %v, not %v, %v", c.list, got, ok, c.want, c.ok)
		}
	}
}

// TestBestWide is P10.1's Best of spans whose widths layer 3 clips: they are as wide as one another, and the first one is answered.
func TestBestWide(t *testing.T) {
	// Each is from there - api.Most to there + api.Most, at most: drift is api.Most.
	p := api.Params{Rho: 1 << 60}
	wider, wide, narrow := probe.Trip{Got: 0, Said: 0}, probe.Trip{Got: most - 5, Said: most - 5}, probe.Trip{Got: most, Said: -1}
	for _, c := range []struct {
		list []probe.Trip
		want api.Span
	}{
		{[]probe.Trip{wider}, api.Span{Lo: -most, Hi: most}},
		{[]probe.Trip{wide}, api.Span{Lo: -5, Hi: most}},
		{[]probe.Trip{narrow}, api.Span{Lo: 0, Hi: most - 1}},
		{[]probe.Trip{wider, wide}, api.Span{Lo: -most, Hi: most}},
		{[]probe.Trip{wide, wider}, api.Span{Lo: -5, Hi: most}},
		{[]probe.Trip{wider, wide, narrow}, api.Span{Lo: 0, Hi: most - 1}},
		{[]probe.Trip{narrow, wide, wider}, api.Span{Lo: 0, Hi: most - 1}},
	} {
		if got, ok := probe.Best(p, c.list...); got != c.want || !ok {
			t.Errorf("Best of %v is %v, %v, not %v", c.list, got, ok, c.want)
		}
	}
}

// TestBestOfAll is P10.1's Best, of all numbers, of lists long and short.
func TestBestOfAll(t *testing.T) {
	r := rand.New(rand.NewSource(101))
	for range 30000 {
		p := someParams(r)
		list := make([]probe.Trip, r.Intn(12))
		for i := range list {
			list[i] = someTrip(r)
		}
		got, ok := probe.Best(p, list...)
		if want, is := modelBest(p, list); got != want || ok != is {
			t.Fatalf("Best(%+v, %+v) is %v, %v, not %v, %v", p, list, got, ok, want, is)
		}
	}
	long := slices.Repeat([]probe.Trip{{Got: 50, Heard: 1}, {Got: 1095, Said: 1200, Heard: 300}}, 5000)
	long = append(long, probe.Trip{Got: 1098, Said: 1200, Heard: 302})
	if got, ok := probe.Best(near(), long...); got != (api.Span{Lo: 998, Hi: 998}) || !ok {
		t.Errorf("Best of many is %v, %v", got, ok)
	}
}

// TestHandedIn: what is handed to Best isn't changed, spare room included.
func TestHandedIn(t *testing.T) {
	r := rand.New(rand.NewSource(102))
	for n := range 20 {
		list := make([]probe.Trip, 20)
		for i := range list {
			list[i] = someTrip(r)
		}
		was := slices.Clone(list)
		probe.Best(near(), list[:n]...)
		if !slices.Equal(list, was) {
			t.Fatalf("Best of %d changed them: %v, not %v", n, list, was)
		}
	}
}

// fabrics are numbers that a fabric may have, at the ends of what it may, too.
func fabrics(t *testing.T) []api.Params {
	var all []api.Params
	for _, beat := range []int{8, 1000, 1 << 40} {
		for _, rho := range []int{0, 1, beat / 8} {
			for _, delay := range []int{0, 1, beat/2 - 1, beat / 2} {
				for _, jitter := range []int{0, delay / 10, delay} {
					p := api.Params{N: 4, F: 1, D: 2, Beat: beat, Rho: rho, Delay: delay, Jitter: jitter, Eps: 50, Mu: rho + 1, Hold: 5, Pulse: 5000, Second: 1000}
					if limit.Check(p) != api.OK {
						t.Fatalf("no fabric has %+v", p)
					}
					all = append(all, p)
				}
			}
		}
	}
	return all
}

// between are both ends, the middle, and some at random.
func between(r *rand.Rand, lo, hi int) []int {
	return []int{lo, hi, lo + (hi-lo)/2, lo + r.Intn(hi-lo+1)}
}

// travel is a trip as it goes: the other clock is ahead by so much when the question comes, by drift more when the answer goes, so many ticks behind that.
func travel(asked, ahead, there, stay, drift, back int) probe.Trip {
	came := asked + there
	went := came + stay
	return probe.Trip{Asked: asked, Got: came + ahead, Said: went + ahead + drift, Heard: went + back}
}

// TestIn is P10.2: by how much the other clock is ahead is in Ahead, however the ways and the drift fall out.
func TestIn(t *testing.T) {
	r := rand.New(rand.NewSource(103))
	for _, p := range fabrics(t) {
		for _, ahead := range []int{0, 1, -1, 995, -1 << 42, 1 << 60, -1 << 60} {
			for _, there := range between(r, p.Delay-p.Jitter, p.Delay) {
				for _, back := range between(r, p.Delay-p.Jitter, p.Delay) {
					for _, drift := range between(r, -2*p.Rho, 2*p.Rho) {
						x := travel(r.Intn(1<<50)-1<<49, ahead, there, r.Intn(p.Beat+1), drift, back)
						if s := probe.Ahead(p, x); s.Lo > ahead || s.Hi < ahead || !probe.Right(p, x) {
							t.Fatalf("%d is not in Ahead(%+v, %+v): %v", ahead, p, x, s)
						}
					}
				}
			}
		}
	}
}

// TestBestIn is P10.2 of Best: of trips that go as they may, it has in it by how much the other clock is ahead.
func TestBestIn(t *testing.T) {
	r := rand.New(rand.NewSource(104))
	for _, p := range fabrics(t) {
		for range 200 {
			ahead := r.Intn(1<<50) - 1<<49
			var list []probe.Trip
			for range 1 + r.Intn(6) {
				there, back := p.Delay-r.Intn(p.Jitter+1), p.Delay-r.Intn(p.Jitter+1)
				list = append(list, travel(r.Intn(1<<50), ahead, there, r.Intn(p.Beat), r.Intn(4*p.Rho+1)-2*p.Rho, back))
			}
			if s, ok := probe.Best(p, list...); !ok || s.Lo > ahead || s.Hi < ahead {
				t.Fatalf("%d is not in Best(%+v, %+v): %v, %v", ahead, p, list, s, ok)
			}
		}
	}
}

// TestNoMore is P10.1's Ahead from without: behind a way, or a drift, that is a tick beyond what the spans have room for, what is looked for is out.
func TestNoMore(t *testing.T) {
	for _, p := range fabrics(t) {
		least := p.Delay - p.Jitter
		for _, c := range []struct{ there, drift, back int }{
			{p.Delay + 2*p.Rho + 1, 0, p.Delay}, {least - 2*p.Rho - 1, 0, least},
			{p.Delay, 0, p.Delay + 2*p.Rho + 1}, {least, 0, least - 2*p.Rho - 1},
			{p.Delay, -2*p.Rho - 1, p.Delay}, {least, -2*p.Rho - 1, p.Delay},
			{p.Delay, 2*p.Rho + 1, least}, {least, 2*p.Rho + 1, least},
		} {
			x := travel(100, 995, c.there, 7, c.drift, c.back)
			if s := probe.Ahead(p, x); s.Lo <= 995 && s.Hi >= 995 {
				t.Errorf("995 is in Ahead(%+v, %+v): %v", p, x, s)
			}
		}
	}
}

// TestWidth is P10.2's width: of whatever trips it is Jitter and 4 Rho, at most, and of some it is so wide.
func TestWidth(t *testing.T) {
	r := rand.New(rand.NewSource(105))
	for _, p := range fabrics(t) {
		bound := p.Jitter + 4*p.Rho
		for range 3000 {
			x := someTrip(r)
			if r.Intn(2) == 0 {
				x = travel(r.Intn(5000), r.Intn(5000), p.Delay-r.Intn(p.Jitter+1), 7, 0, p.Delay-r.Intn(p.Jitter+1))
			}
			s := probe.Ahead(p, x)
			if s.Hi-s.Lo > bound {
				t.Fatalf("Ahead(%+v, %+v) is wider than %d: %v", p, x, bound, s)
			}
		}
		if s := probe.Ahead(p, travel(0, 995, p.Delay, 7, 0, p.Delay-p.Jitter)); s.Hi-s.Lo != bound {
			t.Errorf("of %+v Ahead isn't %d wide: %v", p, bound, s)
		}
	}
}
