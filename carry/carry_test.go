package carry_test

import (
	"math"
	"math/big"
	"math/rand"
	"testing"

	"clepsydra/api"
	"clepsydra/carry"
	"clepsydra/limit"
)

const most = api.Most

// edges are ordinary numbers, those around where clipping begins, and those far beyond.
func edges() []int {
	return []int{math.MinInt, math.MinInt + 1, -1 << 62, -most - 1, -most, -most + 1, -most + 100, -1 << 60, -1000, -1,
		0, 1, 100, 1000, 1 << 40, 1 << 60, 1<<60 + 1, most - 100, most - 1, most, most + 1, 1 << 62, math.MaxInt - 1, math.MaxInt}
}

// near are the numbers of the chapter's example.
func near() api.Params { return api.Params{Beat: 1000, Rho: 1, Delay: 100, Jitter: 10} }

// clip is layer 1's, of numbers that may be greater than an int.
func clip(x *big.Int) *big.Int {
	top := big.NewInt(most)
	if x.CmpAbs(top) <= 0 {
		return x
	}
	if x.Sign() < 0 {
		return top.Neg(top)
	}
	return top
}

// sum adds one number behind the other, each sum clipped; a minus is told by a factor ahead of each.
func sum(terms ...int) int {
	all := new(big.Int)
	for i := 0; i < len(terms); i += 2 {
		term := clip(big.NewInt(int64(terms[i+1])))
		all = clip(new(big.Int).Add(all, new(big.Int).Mul(big.NewInt(int64(terms[i])), term)))
	}
	return int(all.Int64())
}

func modelHold(p api.Params, s api.Span, ticks int) api.Span {
	return api.Span{Lo: sum(1, s.Lo, 1, sum(1, ticks, -1, p.Rho)), Hi: sum(1, s.Hi, 1, sum(1, ticks, 1, p.Rho))}
}

func modelWay(p api.Params, s api.Span, age int) api.Span {
	least := sum(1, p.Delay, -1, p.Jitter)
	return api.Span{Lo: sum(1, s.Lo, 1, sum(1, least, 1, age, -1, p.Rho)), Hi: sum(1, s.Hi, 1, sum(1, p.Delay, 1, age, 1, p.Rho))}
}

func modelTicks(p api.Params) api.Span {
	return api.Span{Lo: sum(1, p.Beat, -1, p.Rho), Hi: sum(1, p.Beat, 1, p.Rho)}
}

func modelAges(p api.Params) api.Span {
	least := sum(1, p.Beat, -1, p.Delay)
	return api.Span{Lo: sum(1, least, -1, p.Rho), Hi: sum(1, least, 1, p.Jitter, 1, p.Rho)}
}

// check holds all four calls against the model.
func check(t *testing.T, p api.Params, s api.Span, n int) {
	t.Helper()
	if got, want := carry.Hold(p, s, n), modelHold(p, s, n); got != want {
		t.Fatalf("Hold(%+v, %v, %d) is %v, not %v", p, s, n, got, want)
	}
	if got, want := carry.Way(p, s, n), modelWay(p, s, n); got != want {
		t.Fatalf("Way(%+v, %v, %d) is %v, not %v", p, s, n, got, want)
	}
	if got, want := carry.Ticks(p), modelTicks(p); got != want {
		t.Fatalf("Ticks(%+v) is %v, not %v", p, got, want)
	}
	if got, want := carry.Ages(p), modelAges(p); got != want {
		t.Fatalf("Ages(%+v) is %v, not %v", p, got, want)
	}
}

// TestExamples are the chapter's examples.
func TestExamples(t *testing.T) {
	s := api.Span{Lo: 0, Hi: 5}
	if got := carry.Hold(near(), s, 1000); got != (api.Span{Lo: 999, Hi: 1006}) {
		t.Errorf("Hold is %v", got)
	}
	if got := carry.Way(near(), s, 905); got != (api.Span{Lo: 994, Hi: 1011}) {
		t.Errorf("Way is %v", got)
	}
	if got := carry.Ages(near()); got != (api.Span{Lo: 899, Hi: 911}) {
		t.Errorf("Ages is %v", got)
	}
	if got := carry.Ticks(near()); got != (api.Span{Lo: 999, Hi: 1001}) {
		t.Errorf("Ticks is %v", got)
	}
}

// TestHold is P11.1's Hold, worked out by hand: ordinary spans, empty ones, ticks and errors that no clock has, and where a sum is clipped.
func TestHold(t *testing.T) {
	for _, c := range []struct {
		rho   int
		s     api.Span
		ticks int
		want  api.Span
	}{
		{0, api.Span{Lo: 3, Hi: 3}, 7, api.Span{Lo: 10, Hi: 10}},
		{5, api.Span{Lo: -40, Hi: -20}, 1000, api.Span{Lo: 955, Hi: 985}},
		{125, api.Span{Lo: 100, Hi: 200}, 900, api.Span{Lo: 875, Hi: 1225}},
		{1, api.Span{}, 0, api.Span{Lo: -1, Hi: 1}},
		{1, api.Span{Lo: 10, Hi: 20}, -1000, api.Span{Lo: -991, Hi: -979}},
		{-3, api.Span{Lo: 10, Hi: 20}, 100, api.Span{Lo: 113, Hi: 117}},
		{-30, api.Span{Lo: 10, Hi: 20}, 100, api.Span{Lo: 140, Hi: 90}},
		// An empty span is moved like any other, be it that it isn't empty any more.
		{1, api.Span{Lo: 20, Hi: 10}, 100, api.Span{Lo: 119, Hi: 111}},
		{9, api.Span{Lo: 20, Hi: 10}, 100, api.Span{Lo: 111, Hi: 119}},
		// The ends stay at api.Most; the ticks with Rho stay there ahead of them.
		{1, api.Span{Lo: -most, Hi: most}, 1000, api.Span{Lo: -most + 999, Hi: most}},
		{7, api.Span{Lo: most - 3, Hi: most - 2}, 8, api.Span{Lo: most - 2, Hi: most}},
		{7, api.Span{Lo: -5, Hi: -5}, math.MaxInt, api.Span{Lo: most - 12, Hi: most - 5}},
		{7, api.Span{Lo: 5, Hi: 5}, math.MinInt, api.Span{Lo: -most + 5, Hi: -most + 12}},
		{math.MinInt, api.Span{Lo: -5, Hi: 5}, 9, api.Span{Lo: most - 5, Hi: -most + 14}},
		{math.MaxInt, api.Span{Lo: -5, Hi: 5}, -9, api.Span{Lo: -most, Hi: most - 4}},
		{1, api.Span{Lo: math.MinInt, Hi: math.MaxInt}, 1000, api.Span{Lo: -most + 999, Hi: most}},
		{1, api.Span{Lo: math.MaxInt, Hi: math.MinInt}, -1000, api.Span{Lo: most - 1001, Hi: -most}},
	} {
		if got := carry.Hold(api.Params{Rho: c.rho}, c.s, c.ticks); got != c.want {
			t.Errorf("of Rho %d Hold(%v, %d) is %v, not %v", c.rho, c.s, c.ticks, got, c.want)
		}
	}
}

// TestWay is P11.1's Way, worked out by hand, likewise: each sum on the way is clipped for itself, in the chapter's order.
func TestWay(t *testing.T) {
	for _, c := range []struct {
		delay, jitter, rho int
		s                  api.Span
		age                int
		want               api.Span
	}{
		{100, 0, 0, api.Span{Lo: 3, Hi: 3}, 900, api.Span{Lo: 1003, Hi: 1003}},
		{100, 100, 5, api.Span{Lo: -40, Hi: -20}, 950, api.Span{Lo: 905, Hi: 1035}},
		{0, 0, 1, api.Span{Lo: 10, Hi: 20}, 1000, api.Span{Lo: 1009, Hi: 1021}},
		{100, 10, 1, api.Span{Lo: 10, Hi: 20}, 0, api.Span{Lo: 99, Hi: 121}},
		{100, 10, 1, api.Span{Lo: 10, Hi: 20}, -300, api.Span{Lo: -201, Hi: -179}},
		{100, 10, 1, api.Span{Lo: 20, Hi: 10}, 900, api.Span{Lo: 1009, Hi: 1011}},
		{10, 30, 0, api.Span{}, 100, api.Span{Lo: 80, Hi: 110}},
		{10, -30, 0, api.Span{}, 100, api.Span{Lo: 140, Hi: 110}},
		{-10, 5, -2, api.Span{}, 100, api.Span{Lo: 87, Hi: 88}},
		// The age at api.Most: Delay has been added ahead of that, and Rho is behind it.
		{100, 10, 1, api.Span{}, math.MaxInt, api.Span{Lo: most - 1, Hi: most}},
		{100, 10, 1, api.Span{Lo: 0, Hi: 5}, math.MinInt, api.Span{Lo: -most + 89, Hi: -most + 106}},
		{100, 10, -1, api.Span{}, math.MaxInt, api.Span{Lo: most, Hi: most - 1}},
		{-100, 10, 1, api.Span{}, math.MinInt, api.Span{Lo: -most, Hi: -most + 1}},
		{-100, 10, -1, api.Span{}, math.MinInt, api.Span{Lo: -most + 1, Hi: -most}},
		// The sum is made for itself: it is clipped ahead of the span's ends being moved by it.
		{100, 10, 1, api.Span{Lo: -50, Hi: -50}, math.MaxInt, api.Span{Lo: most - 51, Hi: most - 50}},
		{-100, 10, 1, api.Span{Lo: 50, Hi: 50}, math.MinInt, api.Span{Lo: -most + 50, Hi: -most + 51}},
		// Delay - Jitter stays at api.Most ahead of the age.
		{most, -10, 0, api.Span{}, -100, api.Span{Lo: most - 100, Hi: most - 100}},
		{-most, 10, 0, api.Span{}, 100, api.Span{Lo: -most + 100, Hi: -most + 100}},
		{0, math.MinInt, 0, api.Span{}, -100, api.Span{Lo: most - 100, Hi: -100}},
		{math.MaxInt, math.MaxInt, 0, api.Span{}, -100, api.Span{Lo: -100, Hi: most - 100}},
		// Rho's opposite, too.
		{0, 0, math.MinInt, api.Span{}, -100, api.Span{Lo: most - 100, Hi: -most}},
		{0, 0, math.MaxInt, api.Span{}, 100, api.Span{Lo: -most + 100, Hi: most}},
		// The ends.
		{100, 10, 1, api.Span{Lo: most - 1000, Hi: most}, 905, api.Span{Lo: most - 6, Hi: most}},
		{100, 10, 1, api.Span{Lo: math.MinInt, Hi: math.MaxInt}, 905, api.Span{Lo: -most + 994, Hi: most}},
		{100, 10, 1, api.Span{Lo: -most, Hi: -most + 5}, -905, api.Span{Lo: -most, Hi: -most}},
	} {
		p := api.Params{Delay: c.delay, Jitter: c.jitter, Rho: c.rho}
		if got := carry.Way(p, c.s, c.age); got != c.want {
			t.Errorf("Way(%+v, %v, %d) is %v, not %v", p, c.s, c.age, got, c.want)
		}
	}
}

// TestBounds is P11.1's Ticks and Ages, worked out by hand, of numbers that a fabric may have and of others.
func TestBounds(t *testing.T) {
	for _, c := range []struct {
		p           api.Params
		ticks, ages api.Span
	}{
		{api.Params{}, api.Span{}, api.Span{}},
		{api.Params{Beat: 8, Rho: 1, Delay: 4, Jitter: 4}, api.Span{Lo: 7, Hi: 9}, api.Span{Lo: 3, Hi: 9}},
		{api.Params{Beat: 1000}, api.Span{Lo: 1000, Hi: 1000}, api.Span{Lo: 1000, Hi: 1000}},
		{api.Params{Beat: 1000, Rho: 125, Delay: 500, Jitter: 20}, api.Span{Lo: 875, Hi: 1125}, api.Span{Lo: 375, Hi: 645}},
		{api.Params{Beat: 100, Delay: 300, Jitter: 10, Rho: 2}, api.Span{Lo: 98, Hi: 102}, api.Span{Lo: -202, Hi: -188}},
		{api.Params{Beat: 100, Rho: -7, Jitter: -5}, api.Span{Lo: 107, Hi: 93}, api.Span{Lo: 107, Hi: 88}},
		{api.Params{Beat: math.MaxInt, Rho: 7}, api.Span{Lo: most - 7, Hi: most}, api.Span{Lo: most - 7, Hi: most}},
		{api.Params{Beat: math.MinInt, Rho: 7}, api.Span{Lo: -most, Hi: -most + 7}, api.Span{Lo: -most, Hi: -most + 7}},
		{api.Params{Rho: math.MinInt}, api.Span{Lo: most, Hi: -most}, api.Span{Lo: most, Hi: -most}},
		{api.Params{Rho: math.MaxInt, Beat: 3}, api.Span{Lo: -most + 3, Hi: most}, api.Span{Lo: -most + 3, Hi: most}},
		// least is clipped ahead of what follows, and the sum with Jitter ahead of Rho.
		{api.Params{Beat: most, Delay: -50, Jitter: -10}, api.Span{Lo: most, Hi: most}, api.Span{Lo: most, Hi: most - 10}},
		{api.Params{Beat: -most, Delay: 50, Jitter: 10, Rho: -4}, api.Span{Lo: -most + 4, Hi: -most}, api.Span{Lo: -most + 4, Hi: -most + 6}},
		{api.Params{Beat: most, Jitter: 50, Rho: -4}, api.Span{Lo: most, Hi: most - 4}, api.Span{Lo: most, Hi: most - 4}},
		{api.Params{Beat: -most, Jitter: -50, Rho: 4}, api.Span{Lo: -most, Hi: -most + 4}, api.Span{Lo: -most, Hi: -most + 4}},
		{api.Params{Delay: math.MinInt, Jitter: math.MinInt}, api.Span{}, api.Span{Lo: most, Hi: 0}},
	} {
		if got := carry.Ticks(c.p); got != c.ticks {
			t.Errorf("Ticks(%+v) is %v, not %v", c.p, got, c.ticks)
		}
		if got := carry.Ages(c.p); got != c.ages {
			t.Errorf("Ages(%+v) is %v, not %v", c.p, got, c.ages)
		}
	}
}

// TestOfAll is P11.1, of all numbers, against a model.
func TestOfAll(t *testing.T) {
	for _, a := range edges() {
		for _, b := range edges() {
			for _, c := range []int{math.MinInt, -most, -1000, 0, 3, most - 3, math.MaxInt} {
				check(t, near(), api.Span{Lo: a, Hi: b}, c)
				check(t, api.Params{Beat: a, Rho: b, Delay: c, Jitter: 7}, api.Span{Lo: 3, Hi: 9}, 100)
				check(t, api.Params{Beat: c, Rho: 7, Delay: a, Jitter: b}, api.Span{Lo: 3, Hi: 9}, 100)
				check(t, api.Params{Beat: 1000, Rho: a, Delay: 40, Jitter: c}, api.Span{Lo: 3, Hi: 9}, b)
				check(t, api.Params{Beat: 1000, Rho: c, Delay: a, Jitter: 30}, api.Span{Lo: -3, Hi: 3}, b)
			}
		}
	}
	r := rand.New(rand.NewSource(11))
	n := func() int {
		if r.Intn(2) == 0 {
			return edges()[r.Intn(len(edges()))]
		}
		return r.Intn(2000) - 500
	}
	for range 30000 {
		check(t, api.Params{Beat: n(), Rho: n(), Delay: n(), Jitter: n()}, api.Span{Lo: n(), Hi: n()}, n())
	}
}

// TestOtherNumbers is P11.1: of a fabric's numbers those that no formula names have no say.
func TestOtherNumbers(t *testing.T) {
	s := api.Span{Lo: 0, Hi: 5}
	for _, n := range edges() {
		p := api.Params{N: n, F: n, D: n, Beat: n, Rho: 1, Delay: 100, Jitter: 10, Eps: n, Mu: n, Hold: n, Pulse: n, Second: n}
		if got := carry.Hold(p, s, 1000); got != (api.Span{Lo: 999, Hi: 1006}) {
			t.Errorf("Hold of %+v is %v", p, got)
		}
		if got := carry.Way(p, s, 905); got != (api.Span{Lo: 994, Hi: 1011}) {
			t.Errorf("Way of %+v is %v", p, got)
		}
		p.Beat, p.Delay, p.Jitter = 1000, n, n
		if got := carry.Ticks(p); got != (api.Span{Lo: 999, Hi: 1001}) {
			t.Errorf("Ticks of %+v is %v", p, got)
		}
		p.Delay, p.Jitter = 100, 10
		if got := carry.Ages(p); got != (api.Span{Lo: 899, Hi: 911}) {
			t.Errorf("Ages of %+v is %v", p, got)
		}
	}
}

// fabrics are numbers that a fabric may have, at the ends of what it may, too.
func fabrics(t *testing.T) []api.Params {
	t.Helper()
	var all []api.Params
	for _, beat := range []int{8, 1000, 1 << 40} {
		for _, rho := range []int{0, 1, beat / 8} {
			for _, delay := range []int{0, 1, beat/2 - 1, beat / 2} {
				for _, jitter := range []int{0, delay / 10, delay} {
					p := api.Params{N: 4, F: 1, D: 2, Beat: beat, Rho: rho, Delay: delay, Jitter: jitter, Eps: 50, Mu: rho + 1, Hold: 5, Pulse: 5000, Second: 1000}
					if limit.Check(p) != api.OK {
						t.Fatalf("no fabric has %+v", p)
					}
					all = append(all, p)
				}
			}
		}
	}
	return all
}

// spans are some that times are in, thin and wide, near and far.
func spans() []api.Span {
	return []api.Span{{}, {Lo: 0, Hi: 5}, {Lo: -7, Hi: -7}, {Lo: -1000, Hi: 1000}, {Lo: 1<<60 - 9, Hi: 1 << 60},
		{Lo: -1 << 60, Hi: 1 << 60}, {Lo: -most, Hi: -most + 9}, {Lo: -most, Hi: most - 1<<41}, {Lo: most - 1<<41 - 3, Hi: most - 1<<41}}
}

// between are both ends, the middle, and one at random.
func between(r *rand.Rand, lo, hi int) []int {
	return []int{lo, hi, lo + (hi-lo)/2, lo + r.Intn(hi-lo+1)}
}

func has(s api.Span, x int) bool { return s.Lo <= x && x <= s.Hi }

// TestInHold is P11.2 of Hold: a time in the span is, a beat later, in what the span has become, whatever a right clock told.
func TestInHold(t *testing.T) {
	r := rand.New(rand.NewSource(111))
	for _, p := range fabrics(t) {
		for _, s := range spans() {
			for _, now := range between(r, s.Lo, s.Hi) {
				for _, off := range between(r, -p.Rho, p.Rho) {
					ticks := p.Beat + off
					if !has(carry.Ticks(p), ticks) {
						t.Fatalf("%d is not in Ticks(%+v)", ticks, p)
					}
					if !has(carry.Hold(p, s, ticks), now+p.Beat) {
						t.Fatalf("%d is not in Hold(%+v, %v, %d)", now+p.Beat, p, s, ticks)
					}
				}
			}
		}
	}
}

// TestInWay is P11.2 of Way: a time in what was sent is, at the beat's end, in what that has become, whatever way it took, and whatever a right clock told since.
func TestInWay(t *testing.T) {
	r := rand.New(rand.NewSource(112))
	for _, p := range fabrics(t) {
		for _, s := range spans() {
			for _, now := range between(r, s.Lo, s.Hi) {
				for _, way := range between(r, p.Delay-p.Jitter, p.Delay) {
					for _, off := range between(r, -p.Rho, p.Rho) {
						age := p.Beat - way + off
						if !has(carry.Ages(p), age) {
							t.Fatalf("%d is not in Ages(%+v)", age, p)
						}
						if !has(carry.Way(p, s, age), now+p.Beat) {
							t.Fatalf("%d is not in Way(%+v, %v, %d)", now+p.Beat, p, s, age)
						}
					}
				}
			}
		}
	}
}

// TestNoMore is P11.2 from without: all of Ticks and of Ages can be, and a tick beyond them one end of the span leaves the time out.
func TestNoMore(t *testing.T) {
	for _, p := range fabrics(t) {
		s := api.Span{Lo: -3, Hi: 40}
		ticks, ages := carry.Ticks(p), carry.Ages(p)
		for _, c := range []struct {
			name string
			got  api.Span
			now  int
			in   bool
		}{
			{"Hold of the most", carry.Hold(p, s, ticks.Hi), s.Lo, true}, {"Hold of more", carry.Hold(p, s, ticks.Hi+1), s.Lo, false},
			{"Hold of the least", carry.Hold(p, s, ticks.Lo), s.Hi, true}, {"Hold of less", carry.Hold(p, s, ticks.Lo-1), s.Hi, false},
			{"Way of the most", carry.Way(p, s, ages.Hi), s.Lo, true}, {"Way of more", carry.Way(p, s, ages.Hi+1), s.Lo, false},
			{"Way of the least", carry.Way(p, s, ages.Lo), s.Hi, true}, {"Way of less", carry.Way(p, s, ages.Lo-1), s.Hi, false},
		} {
			if has(c.got, c.now+p.Beat) != c.in {
				t.Errorf("of %+v, %s: %v, and the time is %d", p, c.name, c.got, c.now+p.Beat)
			}
		}
	}
}

// TestManyBeats is P11.2, beat for beat: a held span has the time in it however often it is held, and is 2 Rho wider each time.
func TestManyBeats(t *testing.T) {
	r := rand.New(rand.NewSource(113))
	for _, p := range fabrics(t) {
		s, now := api.Span{Lo: -20, Hi: 30}, r.Intn(51)-20
		for n := 1; n <= 200; n++ {
			s = carry.Hold(p, s, p.Beat+r.Intn(2*p.Rho+1)-p.Rho)
			now += p.Beat
			if !has(s, now) || s.Hi-s.Lo != 50+2*p.Rho*n {
				t.Fatalf("of %+v, behind %d beats: %v, and the time is %d", p, n, s, now)
			}
		}
	}
}

// TestWider is P11.3: Hold is 2 Rho wider than the span, and Way as much as layer 4's Hop.
func TestWider(t *testing.T) {
	r := rand.New(rand.NewSource(114))
	for _, p := range fabrics(t) {
		for _, s := range spans() {
			wide := s.Hi - s.Lo
			for _, ticks := range between(r, p.Beat-p.Rho, p.Beat+p.Rho) {
				if got := carry.Hold(p, s, ticks); got.Hi-got.Lo != wide+2*p.Rho {
					t.Errorf("Hold(%+v, %v, %d) is %v", p, s, ticks, got)
				}
			}
			least := p.Beat - p.Delay
			for _, age := range between(r, least-p.Rho, least+p.Jitter+p.Rho) {
				if got := carry.Way(p, s, age); got.Hi-got.Lo != wide+limit.Hop(p) {
					t.Errorf("Way(%+v, %v, %d) is %v", p, s, age, got)
				}
			}
		}
	}
}
