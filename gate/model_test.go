package gate_test

import (
	"math"
	"math/rand"
	"reflect"
	"slices"
	"testing"

	"clepsydra/api"
	"clepsydra/health"
	"clepsydra/limit"
)

const most = api.Most

// example is layer 4's: its Hop is 12, and its Far of 0 beats 540.
func example() api.Params {
	return api.Params{N: 4, F: 1, D: 2, Beat: 1000, Rho: 1, Delay: 100, Jitter: 10, Eps: 50, Mu: 20, Hold: 5, Pulse: 5000, Second: 1000}
}

// alone are the numbers of the chapter's example: one gateway, which nobody else may contradict.
func alone() api.Params {
	p := example()
	p.N, p.F = 1, 0
	return p
}

// edges are ordinary numbers, those around where bounds are, and those far beyond.
func edges() []int {
	return []int{math.MinInt, math.MinInt + 1, -1 << 62, -most - 1, -most, -most + 1, -1<<60 - 1, -1 << 60, -1000, -20, -1, 0, 1, 2, 3, 4, 5, 6, 20, 1000,
		1<<30 - 1, 1 << 30, 1<<30 + 1, 1 << 40, 1 << 60, 1<<60 + 1, most - 1000, most - 1, most, most + 1, 1 << 62, math.MaxInt - 1, math.MaxInt}
}

func stamp(time, num int) api.Stamp { return api.Stamp{Time: time, Num: num} }

// lasting is the span of w ticks around a time.
func lasting(middle, w int) api.Span { return api.Span{Lo: middle - w, Hi: middle + w} }

// table has a second more; roomy is it with spare room.
func table() []api.Leap { return []api.Leap{{At: 86401, Off: 1}, {At: 864000, Off: 0}} }

func roomy() []api.Leap { return append(make([]api.Leap, 0, 4), table()...) }

// full has as many entries as there may be.
func full() []api.Leap {
	all := make([]api.Leap, 32)
	for i := range all {
		all[i] = api.Leap{At: (i+1)*86400 + i + 1, Off: i + 1}
	}
	return all
}

// badTables are no leap tables, one whose leap isn't at a day's end, and one of an entry too many.
func badTables() [][]api.Leap {
	return [][]api.Leap{{{}}, {{At: 86400, Off: 1}}, {{At: 86402, Off: 2}}, {{At: 864001, Off: 1}, {At: 86400, Off: 0}}, append(full(), api.Leap{At: 33*86400 + 33, Off: 33})}
}

// told is a message of a gateway that saw a span, as it is heard.
func told(from int, seen api.Span, age int) api.Heard {
	return api.Heard{Msg: api.Msg{Kind: api.FromGate, From: from, Ref: true, Seen: seen}, Age: age}
}

// clip is the tests' own, as are all calls below: they say once more what lower layers' calls answer.
func clip(x int) int { return max(-most, min(most, x)) }

func plus(list ...int) int {
	sum := 0
	for _, x := range list {
		sum = clip(sum + clip(x))
	}
	return sum
}

func modelTold(p api.Params, me int, list []api.Heard) []api.Heard {
	var out []api.Heard
	for from := range 16 {
		i := slices.IndexFunc(list, func(h api.Heard) bool { return h.Msg.Kind == 1 && h.Msg.From == from })
		if i >= 0 && from < p.N && from != me {
			out = append(out, list[i])
		}
	}
	return out
}

func modelSees(p api.Params, in api.Input) (api.Span, bool) {
	if !in.Ref || in.Reading > 1<<60 || in.Reading < -1<<60 || p.Eps < 0 {
		return api.Span{}, false
	}
	return api.Span{Lo: plus(in.Reading, -clip(p.Eps)), Hi: plus(in.Reading, p.Eps)}, true
}

// modelFuse is the span of which at most f are wrong: its ends are told by all but f that go furthest.
func modelFuse(f int, spans []api.Span) (api.Span, bool) {
	if f < 0 || f > 1000 || len(spans) < 2*f+1 {
		return api.Span{}, false
	}
	var los, his []int
	for _, s := range spans {
		los, his = append(los, s.Lo), append(his, s.Hi)
	}
	slices.Sort(los)
	slices.Sort(his)
	s := api.Span{Lo: los[len(los)-1-f], Hi: his[f]}
	return s, s.Lo <= s.Hi
}

// modelBeat is the gateway's state behind a beat, and what it tells: the clock, stamps and lives go by layer 21's calls of a front of its own.
func modelBeat(p api.Params, me int, s api.State, in api.Input) (api.State, api.Msg) {
	seen, read := modelSees(p, in)
	var spans []api.Span
	if read {
		spans = append(spans, seen)
	}
	for _, h := range modelTold(p, me, in.Heard) {
		if h.Msg.Ref {
			lo := plus(plus(clip(p.Delay), -clip(p.Jitter)), h.Age, -clip(p.Rho))
			spans = append(spans, api.Span{Lo: plus(h.Msg.Seen.Lo, lo), Hi: plus(h.Msg.Seen.Hi, plus(p.Delay, h.Age, p.Rho))})
		}
	}
	next := api.State{Held: min(max(plus(s.Held, 1), 0), 1<<30), Good: s.Good, Table: s.Table}
	next.Span = api.Span{Lo: plus(s.Span.Lo, plus(in.Ticks, -clip(p.Rho))), Hi: plus(s.Span.Hi, plus(in.Ticks, p.Rho))}
	if one, ok := modelFuse(p.F, spans); ok {
		next.Span, next.Held, next.Good = one, 0, true
	}
	if in.Given {
		next.Table = in.Table
	}
	f := &health.Front{P: p, S: s}
	f.Step(in.Ticks, next)
	said := modelSay(f, 1, me, read, seen)
	return f.S, said
}

func modelSay(f *health.Front, kind, me int, read bool, seen api.Span) api.Msg {
	m := api.Msg{Kind: kind, From: me, Span: f.S.Span, Held: f.S.Held, Hops: f.S.Hops, Good: f.S.Good, Ref: read, Table: f.S.Table}
	if read {
		m.Seen = seen
	}
	m.Pulse, _ = f.Pulse()
	m.Stamp, _ = f.Stamp()
	return m
}

// same is whether two hold the same: a list of none may be nil or empty.
func same(a, b any) bool { return reflect.DeepEqual(plain(a), plain(b)) }

func plain(x any) any {
	switch x := x.(type) {
	case api.State:
		x.Table = append([]api.Leap{}, x.Table...)
		return x
	case api.Msg:
		x.Table = append([]api.Leap{}, x.Table...)
		return x
	case []api.Heard:
		out := []api.Heard{}
		for _, h := range x {
			out = append(out, api.Heard{Msg: plain(h.Msg).(api.Msg), Age: h.Age})
		}
		return out
	}
	return x
}

func want(t *testing.T, what string, got, want any) {
	t.Helper()
	if !same(got, want) {
		t.Fatalf("%s:\n%+v, not\n%+v", what, got, want)
	}
}

// someone draws numbers, states, messages and fabrics' numbers at random.
type someone struct{ *rand.Rand }

func some(seed int64) someone { return someone{rand.New(rand.NewSource(seed))} }

func (r someone) yes() bool { return r.Intn(2) == 0 }

// num is an edge, or near to 0.
func (r someone) num() int {
	if r.yes() {
		return edges()[r.Intn(len(edges()))]
	}
	return r.Intn(41) - 20
}

// within is a number from lo to hi.
func (r someone) within(lo, hi int) int { return lo + r.Intn(hi-lo+1) }

func (r someone) table() []api.Leap {
	switch r.Intn(4) {
	case 0:
		return nil
	case 1:
		return full()
	case 2:
		return badTables()[r.Intn(len(badTables()))]
	}
	return table()
}

// state holds whatever it likes.
func (r someone) state() api.State {
	return api.State{Span: api.Span{Lo: r.num(), Hi: r.num()}, Time: r.num(), Set: r.Intn(4) > 0, Held: r.num(), Hops: r.num(), Good: r.Intn(4) > 0,
		Table: r.table(), Stamp: stamp(r.num(), r.num()), Life: r.num()}
}

// params are any numbers, which a fabric may have or not.
func (r someone) params() api.Params {
	if r.yes() {
		p := example()
		p.N, p.F = r.Intn(19), r.Intn(4)
		return p
	}
	return api.Params{N: r.num(), F: r.num(), D: r.num(), Beat: r.num(), Rho: r.num(), Delay: r.num(), Jitter: r.num(), Eps: r.num(), Mu: r.num(), Hold: r.num(), Pulse: r.num(), Second: r.num()}
}

// heard is whatever is heard, of all kinds and numbers; most of it are gateways'.
func (r someone) heard() []api.Heard {
	var out []api.Heard
	for range r.Intn(12) {
		h := api.Heard{Msg: api.Msg{Kind: r.Intn(4), From: r.Intn(20) - 2, Span: api.Span{Lo: r.num(), Hi: r.num()}, Held: r.num(), Hops: r.num(), Good: r.yes(), Ref: r.Intn(4) > 0,
			Seen: api.Span{Lo: r.num(), Hi: r.num()}, Pulse: r.num(), Stamp: stamp(r.num(), r.num()), Table: r.table()}, Age: r.num()}
		if r.Intn(4) > 0 {
			h.Msg.Kind = 1
		}
		if r.yes() {
			h.Msg.From = r.Intn(5)
		}
		if r.yes() {
			h.Msg.Seen, h.Age = lasting(r.within(3900, 4100), r.Intn(60)), r.within(890, 920)
		}
		out = append(out, h)
	}
	return out
}

// input is whatever befalls in a beat.
func (r someone) input() api.Input {
	in := api.Input{Ticks: r.num(), Heard: r.heard(), Ref: r.Intn(3) > 0, Reading: r.num(), Given: r.yes(), Table: r.table()}
	if r.yes() {
		in.Ticks, in.Reading = r.within(998, 1002), r.within(4900, 5100)
	}
	return in
}

// fabrics are numbers that a fabric may have, at the ends of what gateways' spans hang on.
func fabrics(t *testing.T) []api.Params {
	t.Helper()
	all := []api.Params{alone(), example()}
	for _, f := range []int{0, 1, 2, 5} {
		for _, beat := range []int{8, 1000, 1 << 40} {
			for _, rho := range []int{0, 1, beat / 8} {
				for _, delay := range []int{0, beat / 10, beat / 2} {
					for _, jitter := range []int{0, delay / 2, delay} {
						for _, eps := range []int{0, 50, 1 << 40} {
							p := api.Params{N: 3*f + 1, F: f, D: 2, Beat: beat, Rho: rho, Delay: delay, Jitter: jitter, Eps: eps, Mu: beat / 4, Hold: 4, Pulse: 5000, Second: 1000}
							if limit.Check(p) != api.OK {
								t.Fatalf("no fabric has %+v", p)
							}
							all = append(all, p)
						}
					}
				}
			}
		}
	}
	return all
}
