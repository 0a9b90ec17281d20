package slew_test

import (
	"math"
	"math/big"
	"math/rand"
	"testing"

	"clepsydra/api"
	"clepsydra/limit"
	"clepsydra/slew"
)

const most = api.Most

// edges are ordinary numbers, those around where clipping begins, and those far beyond.
func edges() []int {
	return []int{math.MinInt, math.MinInt + 1, -1 << 62, -most - 1, -most, -most + 1, -most + 100, -1 << 60, -1000, -20, -1,
		0, 1, 20, 1000, 1 << 40, 1 << 60, 1<<60 + 1, most - 100, most - 1, most, most + 1, 1 << 62, math.MaxInt - 1, math.MaxInt}
}

func set(time int) slew.Clock { return slew.Clock{Time: time, Set: true} }

func mu(n int) api.Params { return api.Params{Mu: n} }

// clip is layer 1's, of numbers that may be greater than an int.
func clip(x *big.Int) *big.Int {
	top := big.NewInt(most)
	if x.CmpAbs(top) <= 0 {
		return x
	}
	if x.Sign() < 0 {
		return top.Neg(top)
	}
	return top
}

func number(x int) *big.Int { return clip(big.NewInt(int64(x))) }

func sum(a, b *big.Int) *big.Int { return clip(new(big.Int).Add(a, b)) }

func less(a, b *big.Int) *big.Int { return clip(new(big.Int).Sub(a, b)) }

// modelStep is the chapter's, in numbers without bounds.
func modelStep(c slew.Clock, mu, ticks, to int, jump bool) slew.Clock {
	if jump || !c.Set {
		return set(int(number(to).Int64()))
	}
	base := sum(number(c.Time), number(ticks))
	part := less(number(to), base)
	hi := big.NewInt(int64(mu))
	lo := new(big.Int).Neg(hi)
	if part.Cmp(lo) < 0 || hi.Cmp(lo) < 0 {
		part = lo
	} else if part.Cmp(hi) > 0 {
		part = hi
	}
	return set(int(sum(base, clip(part)).Int64()))
}

func modelOff(c slew.Clock, t int) int {
	off := less(number(c.Time), number(t))
	return int(off.Abs(off).Int64())
}

// check holds Step of a clock, set or not, that may jump or not, and Off, against the model.
func check(t *testing.T, time, mu, ticks, to int) {
	t.Helper()
	p := api.Params{Mu: mu}
	for _, c := range []slew.Clock{{Time: time, Set: true}, {Time: time}} {
		for _, jump := range []bool{false, true} {
			if got, want := c.Step(p, ticks, to, jump), modelStep(c, mu, ticks, to, jump); got != want {
				t.Fatalf("of Mu %d %v.Step(%d, %d, %v) is %v, not %v", mu, c, ticks, to, jump, got, want)
			}
		}
		if got, want := c.Off(to), modelOff(c, to); got != want {
			t.Fatalf("%v.Off(%d) is %d, not %d", c, to, got, want)
		}
	}
}

// TestExamples are the chapter's examples.
func TestExamples(t *testing.T) {
	for to, want := range map[int]int{1150: 1120, 1090: 1090, 5: 1080} {
		if got := set(100).Step(mu(20), 1000, to, false); got != set(want) {
			t.Errorf("Step(1000, %d) is %v, not %d", to, got, want)
		}
	}
}

// TestSlewed is P12.1's Step of a clock that doesn't jump, worked out by hand: ordinary clocks, the ends of Mu, numbers that no fabric has, and where a sum is clipped.
func TestSlewed(t *testing.T) {
	for _, c := range []struct{ time, mu, ticks, to, want int }{
		{0, 0, 0, 0, 0},
		{100, 20, 1000, 1100, 1100},
		{100, 20, 1000, 1101, 1101},
		{100, 20, 1000, 1099, 1099},
		// What is left is as much as Mu, and one more.
		{100, 20, 1000, 1120, 1120},
		{100, 20, 1000, 1121, 1120},
		{100, 20, 1000, 1080, 1080},
		{100, 20, 1000, 1079, 1080},
		{-5000, 20, 1000, 0, -3980},
		{-5000, 20, 1000, -9000, -4020},
		// The clock stood where it is to be brought to: it goes on all the same.
		{100, 20, 1000, 100, 1080},
		// A Mu of 0 never brings it anywhere.
		{100, 0, 1000, 2000, 1100},
		{100, 0, 1000, 0, 1100},
		{100, 1, 0, 2000, 101},
		{100, 1, 0, 0, 99},
		// Ticks that no clock tells.
		{100, 20, 0, 130, 120},
		{100, 20, -1000, 0, -880},
		{100, 20, -1000, -2000, -920},
		{100, 20, -1000, -905, -905},
		// With Mu below 0 its opposite is above it: Bound answers that one, wherever the clock is to go.
		{100, -5, 1000, 2000, 1105},
		{100, -5, 1000, 1100, 1105},
		{100, -5, 1000, 0, 1105},
		{100, math.MinInt, -100, 0, most},
		{100, math.MinInt, -1000, -2000, most - 900},
		{100, -most, -1000, 0, most - 900},
		{100, math.MinInt, 1000, 0, most},
		{most - 10, -20, 0, 0, most},
		// A great Mu brings it there at once.
		{100, math.MaxInt, 1000, -7, -7},
		{100, math.MaxInt, 1000, math.MaxInt, most},
		{100, most, 1000, math.MinInt, -most + 1100},
		{-100, most, -1000, math.MaxInt, most - 1100},
		// What is left is clipped ahead of being added.
		{-most, most, 0, most, 0},
		{-most, math.MaxInt, 10, math.MaxInt, 10},
		{most, most, 0, -most, 0},
		{most, math.MaxInt, -10, math.MinInt, -10},
		// base is clipped ahead of what is added to it, and so is each number that goes in.
		{most, 20, 1000, 0, most - 20},
		{most - 10, 20, 1000, most, most},
		{most - 10, 20, 1000, most - 5, most - 5},
		{-most + 10, 20, -1000, 0, -most + 20},
		{-most, 20, -1000, -most + 7, -most + 7},
		{math.MaxInt, 20, math.MaxInt, 0, most - 20},
		{math.MinInt, 20, math.MinInt, 0, -most + 20},
		{math.MaxInt, 20, math.MinInt, 100, 20},
		{math.MinInt, 20, math.MaxInt, -100, -20},
		{math.MaxInt, 20, -100, math.MaxInt, most - 80},
		{math.MinInt, 20, 100, math.MinInt, -most + 80},
		{math.MaxInt, 20, 0, math.MaxInt, most},
		{math.MinInt, 20, 0, math.MinInt, -most},
		{5, 20, math.MaxInt, math.MinInt, most - 20},
		{-5, 20, math.MinInt, math.MaxInt, -most + 20},
	} {
		clock := set(c.time)
		if got := clock.Step(mu(c.mu), c.ticks, c.to, false); got != set(c.want) {
			t.Errorf("of Mu %d %v.Step(%d, %d, false) is %v, not %d", c.mu, clock, c.ticks, c.to, got, c.want)
		}
		if clock != set(c.time) {
			t.Errorf("Step made a clock of Time %d into %v", c.time, clock)
		}
	}
}

// TestJump is P12.1's Step at once: of a clock that may jump, and of one that wasn't set, whatever its Time, Mu and the ticks are.
func TestJump(t *testing.T) {
	for to, want := range map[int]int{0: 0, 5: 5, -5: -5, 1 << 60: 1 << 60, most - 1: most - 1, most: most, most + 1: most, math.MaxInt: most,
		-most + 1: -most + 1, -most: -most, -most - 1: -most, math.MinInt: -most} {
		for _, n := range edges() {
			for _, m := range edges() {
				p := mu(m)
				if got := set(n).Step(p, 1000, to, true); got != set(want) {
					t.Fatalf("%d, set, jumps to %d: %v", n, to, got)
				}
				if got := (slew.Clock{Time: 100}).Step(p, n, to, true); got != set(want) {
					t.Fatalf("one that wasn't set jumps to %d: %v", to, got)
				}
				if got := (slew.Clock{Time: n}).Step(p, m, to, false); got != set(want) {
					t.Fatalf("%d, not set, is brought to %d: %v", n, to, got)
				}
			}
		}
	}
}

// TestOff is P12.1's Off, worked out by hand, of clocks that are set or not.
func TestOff(t *testing.T) {
	for _, c := range []struct{ time, t, want int }{
		{0, 0, 0}, {100, 90, 10}, {100, 110, 10}, {-100, 100, 200}, {100, -100, 200}, {-100, -90, 10},
		{most, 0, most}, {-most, 0, most}, {0, most, most}, {0, -most, most},
		{most, 1, most - 1}, {-most, -1, most - 1}, {most, -1, most}, {-most, 1, most},
		{most, -most, most}, {-most, most, most}, {most, most - 3, 3}, {-most, -most + 3, 3},
		{math.MaxInt, most, 0}, {most, math.MaxInt, 0}, {math.MinInt, -most, 0}, {-most, math.MinInt, 0},
		{math.MaxInt, most - 3, 3}, {math.MinInt, -most + 3, 3}, {math.MaxInt, math.MaxInt, 0}, {math.MinInt, math.MinInt, 0},
		{math.MinInt, math.MaxInt, most}, {math.MaxInt, math.MinInt, most}, {0, math.MinInt, most}, {math.MinInt, 0, most}, {100, math.MinInt, most},
	} {
		for _, clock := range []slew.Clock{{Time: c.time, Set: true}, {Time: c.time}} {
			if got := clock.Off(c.t); got != c.want {
				t.Errorf("%v.Off(%d) is %d, not %d", clock, c.t, got, c.want)
			}
		}
	}
}

// TestOfAll is P12.1, of all numbers, against a model.
func TestOfAll(t *testing.T) {
	for _, a := range edges() {
		for _, b := range edges() {
			for _, c := range edges() {
				check(t, a, 20, b, c)
				check(t, a, b, 1000, c)
				check(t, 100, a, b, c)
			}
		}
	}
	r := rand.New(rand.NewSource(12))
	n := func() int {
		if r.Intn(2) == 0 {
			return edges()[r.Intn(len(edges()))]
		}
		return r.Intn(2000) - 1000
	}
	for range 30000 {
		check(t, n(), n(), n(), n())
	}
}

// TestOtherNumbers is P12.1: of a fabric's numbers Mu alone has a say.
func TestOtherNumbers(t *testing.T) {
	for _, n := range edges() {
		p := api.Params{N: n, F: n, D: n, Beat: n, Rho: n, Delay: n, Jitter: n, Eps: n, Mu: 20, Hold: n, Pulse: n, Second: n}
		for to, want := range map[int]int{1150: 1120, 1090: 1090, 5: 1080} {
			if got := set(100).Step(p, 1000, to, false); got != set(want) {
				t.Errorf("Step(1000, %d) of %+v is %v, not %d", to, p, got, want)
			}
		}
	}
}

// between answers whether x is from a to b, or from b to a.
func between(x, a, b int) bool { return min(a, b) <= x && x <= max(a, b) }

// TestByMu is P12.2, of all small numbers: a clock goes on by ticks, Mu more or less at most, no more than is left, and all of that, if it may.
func TestByMu(t *testing.T) {
	for m := 0; m <= 6; m++ {
		for time := -4; time <= 4; time++ {
			for ticks := -3; ticks <= 12; ticks++ {
				base := time + ticks
				for to := base - 15; to <= base+15; to++ {
					got := set(time).Step(mu(m), ticks, to, false).Time
					if got < base-m || got > base+m {
						t.Fatalf("of Mu %d a clock of %d goes by %d, to %d, in %d ticks", m, time, got-time, to, ticks)
					}
					if !between(got, base, to) {
						t.Fatalf("of Mu %d a clock of %d and %d ticks goes past %d: %d", m, time, ticks, to, got)
					}
					if got != to && got != base-m && got != base+m {
						t.Fatalf("of Mu %d a clock of %d and %d ticks stays at %d, and %d is left", m, time, ticks, got, to-got)
					}
				}
			}
		}
	}
}

// TestByMuOfAll is P12.2, of all numbers that may be a clock's, with layer 1's sums: at the ends, too, no clock goes past the time it is brought to.
func TestByMuOfAll(t *testing.T) {
	for _, time := range edges() {
		for _, ticks := range edges() {
			// Of a Mu of 0 a clock goes on by its ticks alone.
			base := set(time).Step(mu(0), ticks, 0, false)
			for _, to := range edges() {
				for _, m := range []int{0, 1, 20, 1000, 1 << 38, most, math.MaxInt} {
					got := set(time).Step(mu(m), ticks, to, false)
					if !between(got.Time, base.Time, to) || base.Off(got.Time) > m {
						t.Fatalf("of Mu %d a clock of %d and %d ticks goes to %d, and should to %d", m, time, ticks, got.Time, to)
					}
				}
			}
		}
	}
}

// TestArrives is P12.2, beat for beat: a clock that is far off gets nearer by Mu each beat, until it is there, and stays there.
func TestArrives(t *testing.T) {
	for _, off := range []int{-1000, -101, -100, -20, -3, 0, 7, 20, 21, 999, 1000} {
		c, now := set(off), 0
		for n := 1; n <= 60; n++ {
			now += 1000
			c = c.Step(mu(20), 1000, now, false)
			if want := max(0, max(off, -off)-20*n); c.Off(now) != want || (c.Time-now)*off < 0 {
				t.Fatalf("a clock that was off by %d is off by %d behind %d beats", off, c.Time-now, n)
			}
		}
	}
}

// fabrics are numbers that a fabric may have, at the ends of what Rho and Mu may be.
func fabrics(t *testing.T) []api.Params {
	t.Helper()
	var all []api.Params
	for _, beat := range []int{8, 1000, 1 << 40} {
		for _, rho := range []int{0, 1, beat / 8} {
			for _, m := range []int{rho + 1, beat / 4} {
				p := api.Params{N: 4, F: 1, D: 2, Beat: beat, Rho: rho, Delay: beat / 2, Jitter: beat / 4, Eps: 50, Mu: m, Hold: 5, Pulse: 5000, Second: 1000}
				if limit.Check(p) != api.OK {
					t.Fatalf("no fabric has %+v", p)
				}
				all = append(all, p)
			}
		}
	}
	return all
}

// justSo are the fabrics' numbers, and those with a Mu that is just the beat's error, which P12.3 has room for, too.
func justSo(t *testing.T) []api.Params {
	all := fabrics(t)
	for _, p := range fabrics(t) {
		p.Mu = p.Rho
		all = append(all, p)
	}
	return all
}

// around are the ends of what is at most w from a middle, the middle, and one at random.
func around(r *rand.Rand, middle, w int) []int {
	return []int{middle - w, middle, middle + w, middle - w + r.Intn(2*w+1)}
}

// TestWithin is P12.3: a clock at most w from the time, brought to a time at most w from it, is at most w from it a beat later, whatever a right clock told.
func TestWithin(t *testing.T) {
	r := rand.New(rand.NewSource(121))
	for _, p := range justSo(t) {
		for _, now := range []int{0, -12345, 1 << 60, -1 << 60, most - 1<<43, -most + 1<<43} {
			for _, w := range []int{0, 1, p.Rho, p.Mu, p.Mu + 1, 2*p.Mu + p.Rho, 260, p.Beat, 1 << 41} {
				later := now + p.Beat
				for _, time := range around(r, now, w) {
					for _, ticks := range around(r, p.Beat, p.Rho) {
						for _, to := range around(r, later, w) {
							if got := set(time).Step(p, ticks, to, false); got.Off(later) > w {
								t.Fatalf("of %+v a clock of %d and %d ticks, brought to %d, is %v: the time is %d, and w %d", p, time, ticks, to, got, later, w)
							}
						}
					}
				}
			}
		}
	}
}

// TestWithinForMany is P12.3, beat for beat: it holds for ever, also if the clock always errs to the same side, and what it is brought to, too.
func TestWithinForMany(t *testing.T) {
	r := rand.New(rand.NewSource(122))
	for _, p := range justSo(t) {
		for _, w := range []int{0, 5, p.Mu, 260, 3 * p.Beat} {
			for side := -1; side <= 1; side++ {
				now := r.Intn(2000) - 1000
				c := set(now + side*w)
				for n := 1; n <= 200; n++ {
					ticks, to := p.Beat+side*p.Rho, now+p.Beat+side*w
					if side == 0 {
						ticks, to = p.Beat-p.Rho+r.Intn(2*p.Rho+1), now+p.Beat-w+r.Intn(2*w+1)
					}
					c, now = c.Step(p, ticks, to, false), now+p.Beat
					if c.Off(now) > w {
						t.Fatalf("of %+v, behind %d beats: %v, the time is %d, and w %d", p, n, c, now, w)
					}
				}
			}
		}
	}
}

// TestWithinAtTheEnds is P12.3 where sums are clipped: while the time itself isn't beyond api.Most, it holds there, too.
func TestWithinAtTheEnds(t *testing.T) {
	r := rand.New(rand.NewSource(123))
	for _, p := range justSo(t) {
		for _, now := range []int{-most, -most + 3, most - p.Beat - 3, most - p.Beat} {
			for _, w := range []int{0, 2, p.Mu, 260, 2 * p.Beat} {
				later := now + p.Beat
				for _, time := range around(r, now, w) {
					for _, ticks := range around(r, p.Beat, p.Rho) {
						for _, to := range around(r, later, w) {
							if got := set(time).Step(p, ticks, to, false); got.Off(later) > w {
								t.Fatalf("of %+v a clock of %d and %d ticks, brought to %d, is %v: the time is %d, and w %d", p, time, ticks, to, got, later, w)
							}
						}
					}
				}
			}
		}
	}
}
