package node_test

import (
	"math"
	"math/rand"
	"reflect"
	"slices"
	"testing"

	"clepsydra/api"
	"clepsydra/carry"
	"clepsydra/health"
	"clepsydra/limit"
)

const most = api.Most

// example is like layer 4's, with more steps: its Hop is 12, and its Far of up to 6 beats 592.
func example() api.Params {
	return api.Params{N: 4, F: 1, D: 4, Beat: 1000, Rho: 1, Delay: 100, Jitter: 10, Eps: 50, Mu: 20, Hold: 6, Pulse: 5000, Second: 1000}
}

// trusting are numbers of a fabric in which nobody lies: one gateway is enough.
func trusting() api.Params {
	p := example()
	p.F = 0
	return p
}

// edges are ordinary numbers, those around where bounds are, and those far beyond.
func edges() []int {
	return []int{math.MinInt, math.MinInt + 1, -1 << 62, -most - 1, -most, -most + 1, -1 << 60, -1000, -20, -1, 0, 1, 2, 3, 4, 5, 6, 20, 1000,
		1<<30 - 1, 1 << 30, 1<<30 + 1, 1 << 40, 1 << 60, most - 1000, most - 1, most, most + 1, 1 << 62, math.MaxInt - 1, math.MaxInt}
}

func stamp(time, num int) api.Stamp { return api.Stamp{Time: time, Num: num} }

// lasting is the span of w ticks around a time.
func lasting(middle, w int) api.Span { return api.Span{Lo: middle - w, Hi: middle + w} }

// table has a second more and one that is left out; other is another good one; roomy is table with spare room, in which something is.
func table() []api.Leap { return []api.Leap{{At: 86401, Off: 1}, {At: 864000, Off: 0}} }

func other() []api.Leap { return []api.Leap{{At: 86399, Off: -1}} }

func roomy() []api.Leap { return append(table(), other()...)[:2] }

// full has as many entries as there may be.
func full() []api.Leap {
	all := make([]api.Leap, 32)
	for i := range all {
		all[i] = api.Leap{At: (i+1)*86400 + i + 1, Off: i + 1}
	}
	return all
}

// badTables are no leap tables, one whose leap isn't at a day's end, and one of an entry too many.
func badTables() [][]api.Leap {
	return [][]api.Leap{{{}}, {{At: 86400, Off: 1}}, {{At: 86402, Off: 2}}, {{At: 864001, Off: 1}, {At: 86400, Off: 0}}, append(full(), api.Leap{At: 33*86400 + 33, Off: 33})}
}

// from is a message that somebody good sent, as it is heard: a gateway's, or one of a node that is 1 step from the core.
func from(who int, s api.Span) api.Heard {
	h := api.Heard{Msg: api.Msg{Kind: api.FromGate, From: who, Span: s, Good: true}, Age: 905}
	if who >= 16 {
		h.Msg.Kind, h.Msg.Hops = api.FromNode, 1
	}
	return h
}

// but is a message that is changed.
func but(h api.Heard, change func(*api.Heard)) api.Heard {
	change(&h)
	return h
}

// clip is the tests' own, as are all calls below: they say once more what lower layers' calls answer.
func clip(x int) int { return max(-most, min(most, x)) }

func plus(list ...int) int {
	sum := 0
	for _, x := range list {
		sum = clip(sum + clip(x))
	}
	return sum
}

func isGood(list []api.Leap) bool {
	off, at := 0, -86400
	for _, x := range list {
		step := x.Off - off
		if x.At < 0 || x.At > 1<<40 || x.At < at+86400 || step != 1 && step != -1 || (x.At-x.Off)%86400 != 0 {
			return false
		}
		off, at = x.Off, x.At
	}
	return len(list) <= 32
}

// mate is a neighbour: in which beats, one right behind the other, it was heard at last.
type mate struct{ first, last int }

// model is a node by the chapter's words: beats are counted, and each neighbour is known by when it was heard.
type model struct {
	p    api.Params
	me   int
	s    api.State
	beat int
	near map[int]mate
}

func newModel(p api.Params, me int, s api.State) *model {
	return &model{p: p, me: me, s: health.Sane(p, s), near: map[int]mate{}}
}

// hear answers whether somebody is taken, and for how many beats up to the last one it had been heard.
func (m *model) hear(who int) (bool, int) {
	if who < 0 || who > 47 {
		return false, 0
	}
	k, is := m.near[who]
	if !is && len(m.near) >= 16 {
		return false, 0
	}
	age := 0
	if is && k.last >= m.beat-1 {
		age = m.beat - k.first
	} else {
		k.first = m.beat
	}
	k.last = m.beat
	m.near[who] = k
	return true, age
}

func (m *model) known(list []api.Heard) []api.Heard {
	var out []api.Heard
	by := map[int]int{}
	for _, h := range list {
		if h.Msg.From == m.me || by[h.Msg.From] > 0 {
			continue
		}
		taken, age := m.hear(h.Msg.From)
		if taken && (h.Msg.From < 16 && h.Msg.Kind == 1 || h.Msg.From >= 16 && h.Msg.Kind == 2 && age > 0) {
			by[h.Msg.From]++
			out = append(out, h)
		}
	}
	return out
}

// tick ends a beat: who wasn't heard in this one and the two ahead of it is gone.
func (m *model) tick() {
	for who, k := range m.near {
		if m.beat-k.last > 2 {
			delete(m.near, who)
		}
	}
	m.beat++
}

// numbers are those of the neighbours, rising.
func (m *model) numbers() []int {
	out := []int{}
	for who := range 48 {
		if _, is := m.near[who]; is {
			out = append(out, who)
		}
	}
	return out
}

// way is the span that a message brought, at the beat's end.
func (m *model) way(h api.Heard) api.Span {
	lo := plus(plus(clip(m.p.Delay), -clip(m.p.Jitter)), h.Age, -clip(m.p.Rho))
	return api.Span{Lo: plus(h.Msg.Span.Lo, lo), Hi: plus(h.Msg.Span.Hi, plus(m.p.Delay, h.Age, m.p.Rho))}
}

func more(held int) int { return min(max(plus(held, 1), 0), 1<<30) }

// core is what the gateways lead to: of spans that at most F of tell wrongly, the ends are told by all but F that go furthest.
func (m *model) core(known []api.Heard) (api.State, bool) {
	var los, his, helds []int
	var tables [][]api.Leap
	for who := range min(16, max(m.p.N, 0)) {
		for _, h := range known {
			if h.Msg.From == who && h.Msg.Good && h.Msg.Span.Lo <= h.Msg.Span.Hi {
				s := m.way(h)
				los, his, helds, tables = append(los, s.Lo), append(his, s.Hi), append(helds, h.Msg.Held), append(tables, h.Msg.Table)
			}
		}
	}
	f := m.p.F
	if f < 0 || f > 99 || len(los) < 2*f+1 {
		return api.State{}, false
	}
	slices.Sort(los)
	slices.Sort(his)
	slices.Sort(helds)
	s := api.State{Span: api.Span{Lo: los[len(los)-1-f], Hi: his[f]}, Held: more(helds[f]), Good: true, Table: m.s.Table}
	best := f
	for _, a := range tables {
		same := 0
		for _, b := range tables {
			if slices.Equal(a, b) {
				same++
			}
		}
		if isGood(a) && same > best {
			s.Table, best = a, same
		}
	}
	return s, s.Span.Lo <= s.Span.Hi
}

// neighbour is what the best neighbour leads to: of those with the least Hops, then the least Held, then the least From.
func (m *model) neighbour(known []api.Heard) (api.State, bool) {
	var all []api.Heard
	for _, h := range known {
		s := m.way(h)
		if h.Msg.Kind == 2 && h.Msg.Good && h.Msg.Hops >= 0 && h.Msg.Hops < m.p.D && h.Msg.Span.Lo <= h.Msg.Span.Hi && s.Lo <= s.Hi {
			all = append(all, h)
		}
	}
	if len(all) == 0 {
		return api.State{}, false
	}
	best := slices.MinFunc(all, func(a, b api.Heard) int {
		return slices.Compare([]int{a.Msg.Hops, a.Msg.Held, a.Msg.From}, []int{b.Msg.Hops, b.Msg.Held, b.Msg.From})
	})
	s := api.State{Span: m.way(best), Held: more(best.Msg.Held), Hops: best.Msg.Hops + 1, Good: true, Table: m.s.Table}
	if isGood(best.Msg.Table) {
		s.Table = best.Msg.Table
	}
	return s, true
}

// end ends a beat: what the node tells, and which of the three cases it was; the clock, stamps and lives go by layer 21's calls of a front of its own.
func (m *model) end(in api.Input) (api.Msg, int) {
	known := m.known(in.Heard)
	m.tick()
	next, is := m.core(known)
	which := 1
	if !is {
		next, is = m.neighbour(known)
		which = 2
	}
	if !is {
		s := api.Span{Lo: plus(m.s.Span.Lo, plus(in.Ticks, -clip(m.p.Rho))), Hi: plus(m.s.Span.Hi, plus(in.Ticks, m.p.Rho))}
		next, which = api.State{Span: s, Held: more(m.s.Held), Hops: m.p.D + 1, Table: m.s.Table}, 3
	}
	f := &health.Front{P: m.p, S: m.s}
	f.Step(in.Ticks, next)
	for _, h := range known {
		if h.Msg.Kind == 2 && h.Msg.Good {
			f.Listen(h.Msg.Stamp)
		}
	}
	said := api.Msg{Kind: 2, From: m.me, Span: f.S.Span, Held: f.S.Held, Hops: f.S.Hops, Good: f.S.Good, Table: f.S.Table}
	said.Pulse, _ = f.Pulse()
	said.Stamp, _ = f.Stamp()
	m.s = f.S
	return said, which
}

// same is whether two hold the same: a list of none may be nil or empty.
func same(a, b any) bool { return reflect.DeepEqual(plain(a), plain(b)) }

func plain(x any) any {
	switch x := x.(type) {
	case []int:
		return append([]int{}, x...)
	case api.State:
		x.Table = append([]api.Leap{}, x.Table...)
		return x
	case api.Msg:
		x.Table = append([]api.Leap{}, x.Table...)
		return x
	case []api.Heard:
		out := []api.Heard{}
		for _, h := range x {
			out = append(out, api.Heard{Msg: plain(h.Msg).(api.Msg), Age: h.Age})
		}
		return out
	}
	return x
}

func want(t *testing.T, what string, got, want any) {
	t.Helper()
	if !same(got, want) {
		t.Fatalf("%s:\n%+v, not\n%+v", what, got, want)
	}
}

// someone draws numbers, states, messages and fabrics' numbers at random.
type someone struct{ *rand.Rand }

func some(seed int64) someone { return someone{rand.New(rand.NewSource(seed))} }

func (r someone) yes() bool { return r.Intn(2) == 0 }

// mostly is true, but seldom.
func (r someone) mostly() bool { return r.Intn(8) > 0 }

// num is an edge, or near to 0.
func (r someone) num() int {
	if r.yes() {
		return edges()[r.Intn(len(edges()))]
	}
	return r.Intn(41) - 20
}

// within is a number from lo to hi.
func (r someone) within(lo, hi int) int { return lo + r.Intn(hi-lo+1) }

// off is an error of at most so many ticks, often one of the greatest.
func (r someone) off(most int) int {
	return []int{-most, most, 0, r.within(-most, most)}[r.Intn(4)]
}

// age is what a clock that is right counts behind a message that took as long as it may.
func (r someone) age(p api.Params) int {
	a := carry.Ages(p)
	return []int{a.Lo, a.Hi, r.within(a.Lo, a.Hi)}[r.Intn(3)]
}

// around is a span that has a time, of at most so many ticks to each side.
func (r someone) around(now, most int) api.Span {
	return api.Span{Lo: now - []int{0, most, r.within(0, most)}[r.Intn(3)], Hi: now + []int{0, most, r.within(0, most)}[r.Intn(3)]}
}

func (r someone) table() []api.Leap {
	switch r.Intn(6) {
	case 0:
		return nil
	case 1:
		return full()
	case 2:
		return badTables()[r.Intn(len(badTables()))]
	case 3:
		return other()
	}
	return table()
}

// state holds whatever it likes.
func (r someone) state() api.State {
	return api.State{Span: api.Span{Lo: r.num(), Hi: r.num()}, Time: r.num(), Set: r.Intn(4) > 0, Held: r.num(), Hops: r.num(), Good: r.Intn(4) > 0,
		Table: r.table(), Stamp: stamp(r.num(), r.num()), Life: r.num()}
}

// params are any numbers, which a fabric may have or not; D is from 0 to MaxHops.
func (r someone) params() api.Params {
	if r.mostly() {
		p := example()
		p.N, p.F, p.D = r.Intn(19), r.Intn(3), r.Intn(6)
		return p
	}
	return api.Params{N: r.num(), F: r.num(), D: r.Intn(17), Beat: r.num(), Rho: r.num(), Delay: r.num(), Jitter: r.num(), Eps: r.num(), Mu: r.num(), Hold: r.num(), Pulse: r.num(), Second: r.num()}
}

// message is what somebody of that number tells, of mostly the kind that it has.
func (r someone) message(who int) api.Heard {
	h := from(who, api.Span{Lo: r.num(), Hi: r.num()})
	h.Msg.Held, h.Msg.Hops, h.Msg.Good = r.Intn(4), r.Intn(5), r.mostly()
	h.Msg.Ref, h.Msg.Seen, h.Msg.Pulse = r.yes(), api.Span{Lo: r.num(), Hi: r.num()}, r.num()
	h.Msg.Stamp, h.Msg.Table = stamp(r.within(4900, 5300), r.num()), r.table()
	if r.mostly() {
		h.Msg.Span, h.Age = lasting(r.within(3990, 4010), r.Intn(60)), r.within(890, 920)
	}
	if !r.mostly() {
		h.Msg.Kind, h.Msg.Held, h.Msg.Hops, h.Msg.Stamp.Time, h.Age = r.Intn(5)-1, r.num(), r.num(), r.num(), r.num()
	}
	return h
}

// cast are those whom a node hears: who goes on being heard from beat to beat.
func (r someone) cast() []int {
	list := []int{0, 1, 2, 3}[:r.Intn(5)]
	for range r.Intn(6) {
		list = append(list, 16+r.Intn(6))
	}
	if !r.mostly() {
		for range 20 {
			list = append(list, r.Intn(52)-2)
		}
	}
	return list
}

// input is whatever befalls in a beat: most of the cast are heard.
func (r someone) input(cast []int) api.Input {
	in := api.Input{Ticks: r.num(), Ref: r.yes(), Reading: r.num(), Given: r.yes(), Table: r.table()}
	if r.mostly() {
		in.Ticks = r.within(998, 1002)
	}
	for _, who := range cast {
		if r.mostly() {
			in.Heard = append(in.Heard, r.message(who))
		}
	}
	if r.yes() {
		r.Shuffle(len(in.Heard), func(i, j int) { in.Heard[i], in.Heard[j] = in.Heard[j], in.Heard[i] })
	}
	return in
}

// fabrics are numbers that a fabric may have, at the ends of what nodes' spans hang on.
func fabrics(t *testing.T) []api.Params {
	t.Helper()
	all := []api.Params{example(), trusting()}
	for _, f := range []int{0, 1, 2, 5} {
		for _, beat := range []int{8, 1000, 1 << 40} {
			for _, rho := range []int{0, 1, beat / 8} {
				for _, delay := range []int{0, beat / 10, beat / 2} {
					for _, jitter := range []int{0, delay / 2, delay} {
						p := api.Params{N: 3*f + 1, F: f, D: 2, Beat: beat, Rho: rho, Delay: delay, Jitter: jitter, Eps: 50, Mu: beat / 4, Hold: 4, Pulse: 5000, Second: 1000}
						if limit.Check(p) != api.OK {
							t.Fatalf("no fabric has %+v", p)
						}
						all = append(all, p)
					}
				}
			}
		}
	}
	return all
}
