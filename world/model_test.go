package world_test

import (
	"math"
	"math/rand"
	"reflect"
	"slices"
	"testing"

	"clepsydra/api"
	"clepsydra/gate"
	"clepsydra/health"
	"clepsydra/limit"
	"clepsydra/node"
	"clepsydra/wire"
	"clepsydra/world"
)

const most = api.Most

// example is layer 4's.
func example() api.Params {
	return api.Params{N: 4, F: 1, D: 2, Beat: 1000, Rho: 1, Delay: 100, Jitter: 10, Eps: 50, Mu: 20, Hold: 5, Pulse: 5000, Second: 1000}
}

// fabric is example with so many gateways, of which so many may lie.
func fabric(n, f int) api.Params {
	p := example()
	p.N, p.F = n, f
	return p
}

// edges are ordinary numbers, those around where bounds are, and those far beyond.
func edges() []int {
	return []int{math.MinInt, math.MinInt + 1, -1 << 62, -most - 1, -most, -most + 1, -1000, -17, -16, -15, -2, -1, 0, 1, 2, 3, 4, 15, 16, 17, 31, 32, 33, 47, 48, 64, 1000,
		1 << 30, 1<<30 + 1, most - 1000, most - 1, most, most + 1, 1 << 62, math.MaxInt - 16, math.MaxInt - 1, math.MaxInt}
}

// way is from one number to another one.
func way(from, to int) api.Way { return api.Way{From: from, To: to} }

func stamp(time, num int) api.Stamp { return api.Stamp{Time: time, Num: num} }

// lasting is the span of w ticks to each side of a time.
func lasting(middle, w int) api.Span { return api.Span{Lo: middle - w, Hi: middle + w} }

// table has a second more, and one that is left out; other is another good one; odd is one whose leap isn't at a day's end; bad is none.
func table() []api.Leap { return []api.Leap{{At: 86401, Off: 1}, {At: 864000, Off: 0}} }

func other() []api.Leap { return []api.Leap{{At: 86399, Off: -1}} }

func odd() []api.Leap { return []api.Leap{{At: 86400, Off: 1}} }

func bad() []api.Leap { return []api.Leap{{At: 86402, Off: 2}} }

// said is what a gateway or a node tells that holds a span, and saw the same.
func said(kind, from int, s api.Span) api.Msg {
	return api.Msg{Kind: kind, From: from, Span: s, Good: true, Ref: true, Seen: s}
}

// frame is a message's; there must be one.
func frame(m api.Msg) string {
	s, e := wire.Encode(m)
	if e != api.OK {
		panic(e)
	}
	return s
}

// turned is a frame in which a bit is turned.
func turned(s string) string {
	b := []byte(s)
	b[len(b)/2] ^= 4
	return string(b)
}

// model is a world by the chapter's words: ways are in a map, and frames wait by their ways.
type model struct {
	p     api.Params
	nodes int
	now   int
	gates map[int]*gate.Gate
	mesh  map[int]*node.Node
	waits map[api.Way][]string
	ways  map[api.Way]int
}

func newModel(p api.Params, nodes int, core []int, links []api.Way) *model {
	m := &model{p: p, nodes: nodes, gates: map[int]*gate.Gate{}, mesh: map[int]*node.Node{}, waits: map[api.Way][]string{}, ways: map[api.Way]int{}}
	for i := range p.N {
		m.gates[i] = gate.New(p, i, api.State{})
		for j := range p.N {
			m.ways[way(i, j)] = 1
		}
		delete(m.ways, way(i, i))
		for _, k := range core {
			if k >= 0 && k < nodes {
				m.ways[way(i, 16+k)] = 1
			}
		}
	}
	for i := range nodes {
		m.mesh[16+i] = node.New(p, 16+i, api.State{})
	}
	m.join(links)
	return m
}

func (m *model) cut(links []api.Way) {
	for _, l := range links {
		for a := range m.nodes {
			for b := range m.nodes {
				if a == l.From && b == l.To || b == l.From && a == l.To {
					delete(m.ways, way(16+a, 16+b))
				}
			}
		}
	}
}

func (m *model) join(links []api.Way) {
	for _, l := range links {
		for a := range m.nodes {
			for b := range m.nodes {
				if a != b && (a == l.From && b == l.To || b == l.From && a == l.To) {
					m.ways[way(16+a, 16+b)] = 1
				}
			}
		}
	}
}

func (m *model) front(who int) *health.Front {
	if g, is := m.gates[who]; is {
		return &g.Front
	}
	if n, is := m.mesh[who]; is {
		return &n.Front
	}
	return nil
}

func (m *model) begin(who int, s api.State) {
	if m.front(who) == nil {
		return
	}
	if who < 16 {
		m.gates[who] = gate.New(m.p, who, s)
	} else {
		m.mesh[who] = node.New(m.p, who, s)
	}
	for from := range 48 {
		delete(m.waits, way(from, who))
	}
}

func (m *model) put(l api.Way, s string) api.Errno {
	switch {
	case m.front(l.To) == nil, l.From < 0, l.From > 47:
		return api.ErrArg
	case len(s) > 4096:
		return api.ErrLong
	}
	m.waits[l] = append(m.waits[l], s)
	if len(m.waits[l]) > 64 {
		m.waits[l] = m.waits[l][1:]
		return api.ErrFull
	}
	return api.OK
}

// heard is what waits for a unit, decodes, and bears the number of who sent it; then nothing waits for it.
func (m *model) heard(who int, ages []api.Aged) []api.Heard {
	var out []api.Heard
	for from := range 48 {
		age := m.p.Beat - m.p.Delay
		for _, a := range ages {
			if a.Way.From == from && a.Way.To == who {
				age = a.Ticks
			}
		}
		for _, s := range m.waits[way(from, who)] {
			if x, e := wire.Decode(s); e == api.OK && x.From == from {
				out = append(out, api.Heard{Msg: x, Age: age})
			}
		}
		delete(m.waits, way(from, who))
	}
	return out
}

func (m *model) input(who int, s api.Step) api.Input {
	in := api.Input{Ticks: m.p.Beat, Heard: m.heard(who, s.Ages)}
	for _, x := range s.Ticks {
		if x.Who == who {
			in.Ticks = x.Ticks
		}
	}
	for _, x := range s.Reads {
		if x.Gate == who && x.Is {
			in.Ref, in.Reading = true, x.Reading
		}
		if x.Gate == who && x.Given {
			in.Given, in.Table = true, x.Table
		}
	}
	return in
}

// beat answers what was told, by number.
func (m *model) beat(s api.Step) map[int]api.Msg {
	m.now = max(-most, min(most, m.now+m.p.Beat))
	m.cut(s.Cut)
	m.join(s.Join)
	told := map[int]api.Msg{}
	for who := range 48 {
		if m.front(who) == nil {
			continue
		}
		in := m.input(who, s)
		switch off := slices.Index(s.Off, who) >= 0; {
		case off:
		case who < 16:
			told[who] = m.gates[who].Beat(in)
		default:
			told[who] = m.mesh[who].Beat(in)
		}
	}
	for l := range m.ways {
		if _, is := told[l.From]; is && slices.Index(s.Lost, l) < 0 {
			m.put(l, m.sent(l, told[l.From], s.Lies))
		}
	}
	return told
}

func (m *model) sent(l api.Way, told api.Msg, lies []api.Lie) string {
	out := frame(told)
	for _, x := range lies {
		if x.Way == l && l.From <= 15 {
			out = x.Frame
		}
	}
	return out
}

// same is whether two hold the same: a list of none may be nil or empty.
func same(a, b any) bool { return reflect.DeepEqual(plain(a), plain(b)) }

func plain(x any) any {
	switch x := x.(type) {
	case api.State:
		x.Table = append([]api.Leap{}, x.Table...)
		return x
	case *health.Front:
		if x == nil {
			return nil
		}
		return []any{x.P, plain(x.S)}
	}
	return x
}

func want(t *testing.T, what string, got, want any) {
	t.Helper()
	if !same(got, want) {
		t.Fatalf("%s:\n%+v, not\n%+v", what, plain(got), plain(want))
	}
}

// wantModel holds all that is to be seen of a world to a model.
func wantModel(t *testing.T, w *world.World, m *model) {
	t.Helper()
	want(t, "the true time", w.Time(), m.now)
	for who := -1; who < 50; who++ {
		if f := m.front(who); f == nil {
			want(t, "nobody", w.Front(who), (*health.Front)(nil))
		} else {
			want(t, "what a unit holds", w.Front(who), f)
		}
	}
}

// wantWaits holds what waits to a model: how many frames do, since then so many more are OK until the first one is gone. All frames are others behind that.
func wantWaits(t *testing.T, w *world.World, m *model) {
	t.Helper()
	for from := range 48 {
		for to := range 48 {
			if m.front(to) == nil {
				continue
			}
			l := way(from, to)
			want(t, "how many wait", waiting(w, l), len(m.waits[l]))
			m.waits[l] = make([]string, 64)
		}
	}
}

// waiting is how many frames wait on a way; then 64 others do.
func waiting(w *world.World, l api.Way) int {
	n := 64
	for range 64 {
		if w.Put(l, "") == api.OK {
			n--
		}
	}
	return n
}

// someone draws numbers, states, frames and steps at random.
type someone struct{ *rand.Rand }

func some(seed int64) someone { return someone{rand.New(rand.NewSource(seed))} }

func (r someone) yes() bool { return r.Intn(2) == 0 }

// seldom is true now and then.
func (r someone) seldom() bool { return r.Intn(8) == 0 }

func (r someone) num() int { return edges()[r.Intn(len(edges()))] }

// within is a number from lo to hi.
func (r someone) within(lo, hi int) int { return lo + r.Intn(hi-lo+1) }

// off is an error of at most so many ticks, often one of the greatest.
func (r someone) off(most int) int {
	return []int{-most, most, 0, r.within(-most, most)}[r.Intn(4)]
}

func (r someone) table() []api.Leap {
	return [][]api.Leap{nil, table(), table(), other(), odd(), bad()}[r.Intn(6)]
}

// state holds whatever it likes.
func (r someone) state() api.State {
	return api.State{Span: api.Span{Lo: r.num(), Hi: r.num()}, Time: r.num(), Set: r.yes(), Held: r.num(), Hops: r.num(), Good: r.yes(),
		Table: r.table(), Stamp: stamp(r.num(), r.num()), Life: r.num()}
}

// params are numbers that a fabric may have.
func (r someone) params() api.Params {
	p := fabric(1+r.Intn(5), 0)
	p.F, p.D, p.Hold = (p.N-1)/3, r.Intn(4), 5+r.Intn(3)
	if r.seldom() {
		p.N, p.F, p.D = 16, r.Intn(6), r.Intn(17)
		p.Hold = p.D + 2
	}
	p.Rho, p.Jitter, p.Eps, p.Delay = r.Intn(3), r.Intn(40), r.Intn(80), 40+r.Intn(461)
	return p
}

// links are those of some of so many nodes, and of others now and then.
func (r someone) links(nodes, count int) []api.Way {
	var out []api.Way
	for range count {
		l := way(r.Intn(nodes+1), r.Intn(nodes+1))
		if r.seldom() {
			l.From = r.num()
		}
		if r.seldom() {
			l.To = r.num()
		}
		out = append(out, l)
	}
	return out
}

func (r someone) core(nodes int) []int {
	var out []int
	for range r.Intn(nodes + 2) {
		out = append(out, r.Intn(nodes+2)-1)
	}
	if r.seldom() {
		out = append(out, r.num())
	}
	return out
}

// who is a unit's number, most often.
func (r someone) who(p api.Params, nodes int) int {
	switch {
	case r.seldom():
		return r.num()
	case r.yes() || nodes == 0:
		return r.Intn(p.N)
	}
	return 16 + r.Intn(nodes)
}

func (r someone) way(p api.Params, nodes int) api.Way {
	return way(r.who(p, nodes), r.who(p, nodes))
}

// frame is of a message around a time, of whoever likes, most often of the one that it should be from, or it is none.
func (r someone) frame(from, now int) string {
	now = max(-1<<60, min(1<<60, now))
	m := said(1, r.Intn(48), lasting(now+r.off(60), r.Intn(90)))
	if !r.seldom() && from >= 0 && from < 48 {
		m.From = from
	}
	m.Kind += min(m.From/16, 1)
	if r.seldom() {
		m.Kind = 1 + r.Intn(2)
	}
	m.Held, m.Hops, m.Good, m.Ref = r.Intn(4), r.Intn(4), !r.seldom(), !r.seldom()
	m.Stamp, m.Table = stamp(now+r.off(3000), r.Intn(5)), [][]api.Leap{nil, table(), other(), odd()}[r.Intn(4)]
	switch r.Intn(12) {
	case 0:
		return turned(frame(m))
	case 1:
		return []string{"", "x", string(make([]byte, 4096)), string(make([]byte, 4097))}[r.Intn(4)]
	}
	return frame(m)
}

// reads are those of a beat that ends at a time: most gateways read it, some more often than once.
func (r someone) reads(p api.Params, now int) []api.Read {
	var out []api.Read
	for i := range p.N {
		if !r.seldom() {
			out = append(out, api.Read{Gate: i, Is: true, Reading: now + r.off(p.Eps)})
		}
		if r.seldom() {
			out = append(out, api.Read{Gate: i, Is: r.yes(), Reading: r.num(), Given: r.yes(), Table: r.table()})
		}
		if r.seldom() {
			out = append(out, api.Read{Gate: r.num(), Is: r.yes(), Reading: r.num(), Given: r.yes(), Table: r.table()})
		}
	}
	r.Shuffle(len(out), func(i, j int) { out[i], out[j] = out[j], out[i] })
	return out
}

// step is whatever befalls in a beat that ends at a time, the less of it, the calmer it is.
func (r someone) step(p api.Params, nodes, now int, calm bool) api.Step {
	s := api.Step{Reads: r.reads(p, now)}
	befalls := func() int {
		if calm && !r.seldom() {
			return 0
		}
		return r.Intn(6)
	}
	for range befalls() {
		s.Ticks = append(s.Ticks, api.Tick{Who: r.who(p, nodes), Ticks: []int{p.Beat + r.off(p.Rho), r.num()}[r.Intn(2)]})
	}
	for range 3 * befalls() {
		s.Ages = append(s.Ages, api.Aged{Way: r.way(p, nodes), Ticks: []int{p.Beat - p.Delay + r.Intn(p.Jitter+1), r.num()}[r.Intn(2)]})
	}
	for range 2 * befalls() {
		s.Lost = append(s.Lost, r.way(p, nodes))
	}
	for range 2 * befalls() {
		l := r.way(p, nodes)
		s.Lies = append(s.Lies, api.Lie{Way: l, Frame: r.frame(l.From, now)})
	}
	for range befalls() {
		s.Off = append(s.Off, r.who(p, nodes))
	}
	s.Cut, s.Join = r.links(nodes, befalls()), r.links(nodes, befalls())
	return s
}

// fabrics are numbers that a fabric may have, at the ends of what spans hang on; clocks are slewed as fast as they may be, so that they settle soon.
func fabrics(t *testing.T) []api.Params {
	t.Helper()
	var all []api.Params
	for _, f := range []int{0, 1, 2} {
		for _, beat := range []int{8, 1000, 1 << 40} {
			for _, rho := range []int{0, beat / 500, beat / 8} {
				for _, delay := range []int{0, beat / 2} {
					for _, jitter := range []int{0, delay} {
						p := api.Params{N: 3*f + 1, F: f, D: 2, Beat: beat, Rho: rho, Delay: delay, Jitter: jitter, Eps: beat / 20, Mu: beat / 4, Hold: 4, Pulse: min(50*beat, 1<<40), Second: 3}
						if limit.Check(p) != api.OK {
							t.Fatalf("no fabric has %+v", p)
						}
						all = append(all, p)
					}
				}
			}
		}
	}
	return all
}
