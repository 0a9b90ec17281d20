package world_test

import (
	"slices"
	"testing"

	"clepsydra/api"
	"clepsydra/carry"
	"clepsydra/health"
	"clepsydra/hlc"
	"clepsydra/limit"
	"clepsydra/world"
)

// sea is a world in which clocks and ways err as they may, and some gateways say whatever they like; the tests know who they are.
type sea struct {
	*world.World
	r     someone
	p     api.Params
	ways  []api.Way
	liars []int
	steps map[int]int // of the units that count, by their numbers: from gateways, and from nodes that hear the core, on
	table []api.Leap  // what right gateways are given, if they are
	given bool
	clock map[int]int // what each one's clock told of the last beat
}

// newSea draws one, in which whatever is held, and is under way.
func newSea(t *testing.T, r someone, p api.Params, nodes int) *sea {
	core, links := r.core(nodes), r.links(nodes, 2*nodes)
	x := &sea{World: begun(t, p, nodes, core, links...), r: r, p: p, liars: r.Perm(p.N)[:r.Intn(p.F+1)], clock: map[int]int{}}
	for l := range newModel(p, nodes, core, links).ways {
		x.ways = append(x.ways, l)
	}
	// A map is gone over in any order.
	slices.SortFunc(x.ways, func(a, b api.Way) int { return slices.Compare([]int{a.From, a.To}, []int{b.From, b.To}) })
	x.Set(r.within(-1<<55, 1<<55))
	for who := range 48 {
		x.Begin(who, r.state())
		if r.yes() && x.Front(who) != nil {
			s := r.state()
			s.Span, s.Time, s.Set, s.Good, s.Held, s.Hops = lasting(x.Time()+r.off(1<<40), r.Intn(1<<20)), x.Time()+r.off(1<<50), true, true, 0, 0
			s.Stamp = stamp(x.Time()+r.off(1<<58), 1<<30)
			x.Begin(who, s)
		}
	}
	for from := range 48 {
		for to := range 48 {
			for range r.Intn(3) {
				x.Put(way(from, to), r.frame(from, x.Time()))
			}
		}
	}
	x.counts()
	return x
}

// counts finds the units that count.
func (x *sea) counts() {
	x.steps = map[int]int{}
	for i := range x.p.N {
		if !slices.Contains(x.liars, i) {
			x.steps[i] = 0
		}
	}
	for hops := range x.p.D + 1 {
		for _, l := range x.ways {
			if _, is := x.steps[l.To]; is || l.To < 16 {
				continue
			}
			from, is := x.steps[l.From]
			if hops == 0 && l.From < 16 || hops > 0 && l.From >= 16 && is && from == hops-1 {
				x.steps[l.To] = hops
			}
		}
	}
}

// beat lets a beat go by: right gateways read references, if there are any.
func (x *sea) beat(t *testing.T, refs bool) {
	t.Helper()
	now, s := x.Time()+x.p.Beat, api.Step{}
	for who := range 48 {
		x.clock[who] = x.p.Beat + x.r.off(x.p.Rho)
		s.Ticks = append(s.Ticks, api.Tick{Who: who, Ticks: x.clock[who]})
		switch lies := slices.Contains(x.liars, who); {
		case lies:
			s.Reads = append(s.Reads, api.Read{Gate: who, Is: x.r.yes(), Reading: x.r.num(), Given: x.r.yes(), Table: x.r.table()})
			s.Lies = append(s.Lies, x.lies(who, now)...)
		case refs:
			s.Reads = append(s.Reads, api.Read{Gate: who, Is: true, Reading: now + x.r.off(x.p.Eps), Given: x.given, Table: x.table})
		}
	}
	ages := carry.Ages(x.p)
	for _, l := range x.ways {
		s.Ages = append(s.Ages, api.Aged{Way: l, Ticks: []int{ages.Lo, ages.Hi, x.r.within(ages.Lo, ages.Hi)}[x.r.Intn(3)]})
	}
	goes(t, x.World, s)
	for who := range 48 {
		if f := x.Front(who); f != nil {
			want(t, "what is held can be", f.S, health.Sane(x.p, f.S))
		}
	}
}

// lies are what a gateway says along its ways, to some the truth.
func (x *sea) lies(who, now int) []api.Lie {
	var out []api.Lie
	for _, l := range x.ways {
		if l.From != who {
			continue
		}
		m := said(1, who, lasting(now+x.r.off(x.p.Eps), x.p.Eps))
		m.Table = other()
		switch x.r.Intn(4) {
		case 0:
			out = append(out, api.Lie{Way: l, Frame: x.r.frame(who, now)})
		case 1:
			m.Span, m.Seen = lasting(now+x.p.Eps+x.r.Intn(x.p.Eps+1), x.p.Eps), lasting(now-2*x.p.Eps, x.p.Eps)
			out = append(out, api.Lie{Way: l, Frame: frame(m)})
		case 2:
			out = append(out, api.Lie{Way: l, Frame: frame(m)})
		}
	}
	return out
}

// rooms is whether no node hears more than there is room for in its table.
func (x *sea) rooms() bool {
	near := map[int]int{}
	for _, l := range x.ways {
		near[l.To]++
	}
	for _, n := range near {
		if n > api.MaxNear {
			return false
		}
	}
	return true
}

// wantSettled is P1 and, where a table is given, P3, of all units.
func (x *sea) wantSettled(t *testing.T, beat int) {
	t.Helper()
	var times []int
	for who := range 48 {
		f := x.Front(who)
		steps, is := x.steps[who]
		switch {
		case f == nil:
			continue
		case !is:
			if who >= 16 && f.Health() != api.Boot {
				t.Fatalf("beat %d of %+v: the unit %d, which nobody leads, holds %+v", beat, x.p, who, f.S)
			}
			continue
		}
		wide := limit.Gate(x.p)
		if who >= 16 {
			wide = limit.Width(x.p, 0, steps)
		}
		s, e := f.Interval()
		at, _ := f.Now()
		if e != api.OK || f.Health() != api.Synced || s.Lo > x.Time() || s.Hi < x.Time() || s.Hi-s.Lo > wide || f.S.Hops != steps {
			t.Fatalf("beat %d of %+v at %d: the unit %d, of %d steps, holds %+v, %d wide", beat, x.p, x.Time(), who, steps, f.S, wide)
		}
		times = append(times, at)
		if off := at - x.Time(); max(off, -off) > limit.Width(x.p, x.p.Hold, x.p.D) {
			t.Fatalf("beat %d of %+v at %d: the clock of %d is %d", beat, x.p, x.Time(), who, at)
		}
		if x.given && !slices.Equal(f.S.Table, x.table) {
			t.Fatalf("beat %d: the unit %d has the table %v", beat, who, f.S.Table)
		}
	}
	if len(times) > 0 && slices.Max(times)-slices.Min(times) > limit.Skew(x.p, x.p.Hold) {
		t.Fatalf("beat %d of %+v: the clocks are %v", beat, x.p, times)
	}
}

// wantOn is P1 and P4 from a beat to the next one: no clock jumps, and stamps rise, and aren't far ahead.
func (x *sea) wantOn(t *testing.T, was map[int]api.State) {
	t.Helper()
	for who := range x.steps {
		f := x.Front(who)
		slewed := f.S.Time - was[who].Time - x.clock[who]
		if max(slewed, -slewed) > x.p.Mu || !hlc.Less(was[who].Stamp, f.S.Stamp) || f.S.Life != was[who].Life || f.S.Stamp.Time > x.Time()+2*health.Far(x.p, x.p.Hold)+2*x.p.Beat {
			t.Fatalf("at %d of %+v: the unit %d holds %+v, behind %+v", x.Time(), x.p, who, f.S, was[who])
		}
	}
}

// states are what the units that count hold.
func (x *sea) states() map[int]api.State {
	out := map[int]api.State{}
	for who := range x.steps {
		out[who] = x.Front(who).S
	}
	return out
}

// goesOn lets beats go by in which all is settled.
func (x *sea) goesOn(t *testing.T, beats int) {
	t.Helper()
	for i := range beats {
		was := x.states()
		x.beat(t, true)
		x.wantSettled(t, i)
		x.wantOn(t, was)
	}
}

// without lets references vanish, for more beats than Hold.
func (x *sea) without(t *testing.T) {
	t.Helper()
	for i := range x.p.Hold + x.p.D + 6 {
		was := x.states()
		x.beat(t, false)
		for who, steps := range x.steps {
			f := x.Front(who)
			wide := limit.Width(x.p, i+2, steps)
			if s, e := f.Interval(); e != api.OK || s.Lo > x.Time() || s.Hi < x.Time() || s.Hi-s.Lo > wide {
				t.Fatalf("beat %d without references, of %+v at %d: the unit %d holds %+v, %d wide", i, x.p, x.Time(), who, f.S, wide)
			}
			// What others saw in the last beat with references still leads a gateway in the next one.
			over := f.S.Held > x.p.Hold
			if over != (f.Health() == api.Holdover) || f.S.Held < was[who].Held || f.S.Held > i+1+2*(steps+1) || who < 16 && f.S.Held != i && f.S.Held != i+1 {
				t.Fatalf("beat %d without references, of %+v: the unit %d holds %+v", i, x.p, who, f.S)
			}
		}
	}
}

// TestFabrics is P1 to P4 of the whole: whatever all held, and was under way, behind Settle beats nothing of that is left, neither then, nor behind beats without references.
func TestFabrics(t *testing.T) {
	r := some(245)
	var far, lied int
	for _, p := range fabrics(t) {
		x := newSea(t, r, p, r.Intn(8))
		if !x.rooms() {
			t.Fatal("a node has too many neighbours")
		}
		x.given, x.table = r.yes(), r.good()
		for range limit.Settle(p) {
			x.beat(t, true)
		}
		x.goesOn(t, 8)
		x.without(t)
		for range limit.Settle(p) {
			x.beat(t, true)
		}
		x.goesOn(t, 8)
		lied += len(x.liars)
		for _, steps := range x.steps {
			far = max(far, steps)
		}
	}
	if far != 2 || lied < 10 {
		t.Errorf("the steps went up to %d, and %d gateways lied", far, lied)
	}
}

// good is a leap table.
func (r someone) good() []api.Leap { return [][]api.Leap{nil, table(), other()}[r.Intn(3)] }
