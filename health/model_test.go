package health_test

import (
	"math"
	"math/big"
	"math/rand"
	"reflect"
	"slices"
	"testing"

	"clepsydra/api"
	"clepsydra/health"
	"clepsydra/limit"
)

const most = api.Most

// example is layer 4's: its Width of 0 to 5 beats is 270, of 6 ones 272, and of 10 ones 280.
func example() api.Params {
	return api.Params{N: 4, F: 1, D: 2, Beat: 1000, Rho: 1, Delay: 100, Jitter: 10, Eps: 50, Mu: 20, Hold: 5, Pulse: 5000, Second: 1000}
}

// edges are ordinary numbers, those around where bounds are, and those far beyond.
func edges() []int {
	return []int{math.MinInt, math.MinInt + 1, -1 << 62, -most - 1, -most, -most + 1, -1 << 60, -1000, -20, -1, 0, 1, 2, 3, 4, 5, 6, 20, 1000,
		1<<30 - 1, 1 << 30, 1<<30 + 1, 1 << 40, 1 << 60, most - 1000, most - 1, most, most + 1, 1 << 62, math.MaxInt - 1, math.MaxInt}
}

func stamp(time, num int) api.Stamp { return api.Stamp{Time: time, Num: num} }

// lasting is the span of w ticks around a time.
func lasting(middle, w int) api.Span { return api.Span{Lo: middle - w, Hi: middle + w} }

// goodTables are none, some, and as many entries as there may be.
func goodTables() [][]api.Leap {
	full := make([]api.Leap, 32)
	for i := range full {
		full[i] = api.Leap{At: (i+1)*86400 + i + 1, Off: i + 1}
	}
	return [][]api.Leap{nil, {}, {{At: 86401, Off: 1}}, {{At: 86399, Off: -1}}, {{At: 86401, Off: 1}, {At: 864000, Off: 0}}, full}
}

// badTables are no leap tables, and such whose leaps aren't at the ends of days.
func badTables() [][]api.Leap {
	many := append(goodTables()[5], api.Leap{At: 33*86400 + 33, Off: 33})
	return [][]api.Leap{{{}}, {{At: 86400, Off: 1}}, {{At: 86402, Off: 2}}, {{At: 86401, Off: 1}, {At: 86402, Off: 2}}, {{At: 864001, Off: 1}, {At: 86400, Off: 0}},
		{{At: 86401, Off: 1}, {At: 172803, Off: 2}}, {{At: -86399, Off: 1}}, {{At: math.MinInt, Off: 1}}, {{At: math.MaxInt, Off: -1}}, many, make([]api.Leap, 40)}
}

// clip is the tests' own, as are all calls below: they say once more what lower layers' calls answer.
func clip(x int) int { return max(-most, min(most, x)) }

func plus(a, b int) int { return clip(clip(a) + clip(b)) }

// bound is that of lo not above hi.
func bound(x, lo, hi int) int { return min(max(x, lo), hi) }

// whole is a number of any size, clipped.
func whole(x *big.Int) *big.Int {
	top := big.NewInt(most)
	if x.CmpAbs(top) <= 0 {
		return x
	}
	if x.Sign() < 0 {
		return top.Neg(top)
	}
	return top
}

func number(x int) *big.Int { return whole(big.NewInt(int64(x))) }

func sum(a, b *big.Int) *big.Int { return whole(new(big.Int).Add(a, b)) }

func times(a, b *big.Int) *big.Int { return whole(new(big.Int).Mul(a, b)) }

// modelFar goes by the formulas of layers 4 and 21, in numbers without bounds.
func modelFar(p api.Params, held int) int {
	two := big.NewInt(2)
	hop := sum(number(p.Jitter), times(two, number(p.Rho)))
	gate := times(two, sum(times(two, number(p.Eps)), hop))
	drift := times(times(two, number(p.Rho)), number(max(held, p.Hold)))
	ways := times(sum(number(p.D), big.NewInt(1)), hop)
	return int(times(two, sum(sum(gate, drift), ways)).Int64())
}

func modelTable(list []api.Leap) bool {
	last := api.Leap{At: -1 << 40}
	for _, x := range list {
		step := x.Off - last.Off
		if x.At < 0 || x.At > 1<<40 || x.At-last.At < 86400 || step != 1 && step != -1 || (x.At-x.Off)%86400 != 0 {
			return false
		}
		last = x
	}
	return len(list) <= 32
}

func modelRight(s api.Stamp) bool {
	return s.Time >= -most && s.Time <= most && s.Num >= 0 && s.Num <= 1<<30
}

func modelSane(p api.Params, s api.State) api.State {
	out := api.State{Span: api.Span{Lo: clip(s.Span.Lo), Hi: clip(s.Span.Hi)}, Time: clip(s.Time), Set: s.Set, Good: s.Good}
	if out.Span.Lo > out.Span.Hi {
		out.Span, out.Good = api.Span{Lo: -most, Hi: most}, false
	}
	out.Held = bound(s.Held, 0, 1<<30)
	if lost := plus(p.D, 1); lost > 0 {
		out.Hops = bound(s.Hops, 0, lost)
	}
	if modelTable(s.Table) {
		out.Table = s.Table
	}
	out.Stamp = stamp(out.Time, 0)
	if modelRight(s.Stamp) {
		out.Stamp = s.Stamp
	}
	out.Life = bound(s.Life, 0, most)
	return out
}

func modelOf(p api.Params, s api.State) int {
	if s.Good && s.Set && s.Hops <= p.D {
		if s.Held <= p.Hold {
			return 1
		}
		return 2
	}
	return 0
}

func modelNext(s api.Stamp) api.Stamp {
	if s.Num >= 1<<30 {
		return stamp(plus(s.Time, 1), 0)
	}
	return stamp(clip(s.Time), max(s.Num, 0)+1)
}

func modelTick(last api.Stamp, now int) api.Stamp {
	if clip(now) > last.Time {
		return stamp(clip(now), 0)
	}
	return modelNext(last)
}

func ahead(a, b api.Stamp) bool { return a.Time < b.Time || a.Time == b.Time && a.Num < b.Num }

func modelListen(p api.Params, s api.State, heard api.Stamp) api.Stamp {
	if !modelRight(heard) || heard.Time > plus(s.Span.Hi, modelFar(p, s.Held)) {
		return modelTick(s.Stamp, s.Time)
	}
	last := stamp(clip(s.Time), -1)
	for _, x := range []api.Stamp{s.Stamp, heard} {
		if ahead(last, x) {
			last = x
		}
	}
	return modelNext(last)
}

// modelClock is where a clock is behind a beat.
func modelClock(p api.Params, s api.State, ticks int, next api.State) int {
	to := int(new(big.Int).Rsh(new(big.Int).Add(number(next.Span.Lo), number(next.Span.Hi)), 1).Int64())
	base := plus(s.Time, ticks)
	left := plus(to, -base)
	if modelOf(p, s) == 0 || left > modelFar(p, next.Held) || -left > modelFar(p, next.Held) {
		return to
	}
	lo, hi := -clip(p.Mu), p.Mu
	if left < lo || hi < lo {
		return plus(base, lo)
	}
	return plus(base, min(left, hi))
}

func modelStep(p api.Params, s api.State, ticks int, next api.State) api.State {
	out := modelSane(p, next)
	out.Time, out.Set, out.Life, out.Stamp = modelClock(p, s, ticks, next), true, bound(s.Life, 0, most), s.Stamp
	anew := !modelRight(s.Stamp) || s.Stamp.Time > plus(out.Span.Hi, modelFar(p, out.Held))
	if anew {
		out.Stamp = stamp(out.Time, 0)
	}
	if anew || out.Time < s.Time {
		out.Life = min(out.Life+1, most)
	}
	out.Stamp = modelTick(out.Stamp, out.Time)
	return out
}

// same is whether two states hold the same: a table of none may be nil or empty.
func same(a, b api.State) bool {
	if !slices.Equal(a.Table, b.Table) {
		return false
	}
	a.Table, b.Table = nil, nil
	return reflect.DeepEqual(a, b)
}

func wantState(t *testing.T, what string, got, want api.State) {
	t.Helper()
	if !same(got, want) {
		t.Fatalf("%s:\n%+v, not\n%+v", what, got, want)
	}
}

// someone draws numbers, states and fabrics' numbers at random.
type someone struct{ *rand.Rand }

func some(seed int64) someone { return someone{rand.New(rand.NewSource(seed))} }

func (r someone) yes() bool { return r.Intn(2) == 0 }

// num is an edge, or near to 0.
func (r someone) num() int {
	if r.yes() {
		return edges()[r.Intn(len(edges()))]
	}
	return r.Intn(41) - 20
}

func (r someone) table() []api.Leap {
	if r.yes() {
		return goodTables()[r.Intn(6)]
	}
	return badTables()[r.Intn(11)]
}

// state holds whatever it likes.
func (r someone) state() api.State {
	return api.State{Span: api.Span{Lo: r.num(), Hi: r.num()}, Time: r.num(), Set: r.Intn(4) > 0, Held: r.num(), Hops: r.num(), Good: r.Intn(4) > 0,
		Table: r.table(), Stamp: stamp(r.num(), r.num()), Life: r.num()}
}

// params are any numbers, which a fabric may have or not.
func (r someone) params() api.Params {
	if r.Intn(3) == 0 {
		return example()
	}
	return api.Params{N: r.num(), F: r.num(), D: r.num(), Beat: r.num(), Rho: r.num(), Delay: r.num(), Jitter: r.num(), Eps: r.num(), Mu: r.num(), Hold: r.num(), Pulse: r.num(), Second: r.num()}
}

// beat is a state, ticks and a next state near to where bounds are: of what the clock is off, of stamps, and of health.
func (r someone) beat(p api.Params) (api.State, int, api.State) {
	time := []int{0, 5000, -5000, 1 << 50, -1 << 50}[r.Intn(5)] + r.Intn(7) - 3
	ticks := 1000 + r.Intn(5) - 2
	held := []int{-3, 0, p.Hold, p.Hold + 1, 100}[r.Intn(5)]
	far := modelFar(p, held)
	off := []int{0, p.Mu, -p.Mu, far, -far, far / 2, -far / 2, 3 * far, -3 * far, -1000 - far}[r.Intn(10)] + r.Intn(5) - 2
	span := lasting(time+ticks+off, r.Intn(300))
	span.Hi += r.Intn(2)
	s := api.State{Span: lasting(time, r.Intn(300)), Time: time, Set: r.Intn(5) > 0, Held: r.Intn(12), Hops: r.Intn(4), Good: r.Intn(5) > 0, Table: r.table(), Life: r.Intn(5) - 1}
	s.Stamp = stamp([]int{time, time - 1000, span.Hi + far, span.Lo, time + ticks + off}[r.Intn(5)]+r.Intn(5)-2, []int{0, 1, -1, 1 << 30, 1<<30 + 1}[r.Intn(5)])
	return s, ticks, api.State{Span: span, Time: r.num(), Set: r.yes(), Held: held, Hops: r.Intn(5) - 1, Good: r.Intn(5) > 0, Table: r.table(), Stamp: stamp(r.num(), r.num()), Life: r.num()}
}

// fabrics are numbers that a fabric may have, at the ends of what spans and clocks hang on.
func fabrics(t *testing.T) []api.Params {
	t.Helper()
	all := []api.Params{example()}
	for _, beat := range []int{8, 1000, 1 << 40} {
		for _, rho := range []int{0, 1, beat / 8} {
			for _, jitter := range []int{0, 1, beat / 2} {
				for _, eps := range []int{0, 1, 50} {
					for _, mu := range []int{rho + 1, beat / 4} {
						for _, d := range []int{0, 2, 16} {
							all = append(all, api.Params{N: 4, F: 1, D: d, Beat: beat, Rho: rho, Delay: beat / 2, Jitter: jitter, Eps: eps, Mu: mu, Hold: d + 2, Pulse: 5000, Second: 1000})
						}
					}
				}
			}
		}
	}
	for _, p := range all {
		if limit.Check(p) != api.OK {
			t.Fatalf("no fabric has %+v", p)
		}
	}
	return all
}

// front is one of the example's numbers.
func front(s api.State) *health.Front { return &health.Front{P: example(), S: s} }

// synced is a state of a unit whose clock is at a time, with all well.
func synced(time int) api.State {
	return api.State{Span: lasting(time, 10), Time: time, Set: true, Good: true, Stamp: stamp(time, 0)}
}

// but is a state in which something else is held.
func but(s api.State, change func(*api.State)) api.State {
	change(&s)
	return s
}
