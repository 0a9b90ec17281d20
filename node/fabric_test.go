package node_test

import (
	"slices"
	"testing"

	"clepsydra/api"
	"clepsydra/health"
	"clepsydra/hlc"
	"clepsydra/limit"
	"clepsydra/node"
	"clepsydra/sat"
	"clepsydra/span"
)

// gates is what a node hears of gateways at the end of a beat at a time, and how wide the widest right span of these is: at least 2 F + 1 are right, and of the rest, at most F, some tell whatever they like.
func (r someone) gates(p api.Params, now int) ([]api.Heard, int) {
	var list []api.Heard
	widest, right, liars := 0, r.within(2*p.F+1, p.N), r.Intn(p.F+1)
	for _, who := range r.Perm(p.N) {
		switch {
		case right > 0:
			right--
			h := from(who, r.around(now-p.Beat, 1<<20))
			h.Age, h.Msg.Held, h.Msg.Table = r.age(p), r.Intn(3), r.table()
			list = append(list, h)
			widest = max(widest, span.Wide(h.Msg.Span))
		case liars > 0:
			liars--
			h := r.message(who)
			h.Msg.Span = api.Span{Lo: now + r.num()/4, Hi: now + r.num()/4}
			list = append(list, h)
		}
	}
	return list, widest
}

func (r someone) shuffle(list []api.Heard) {
	r.Shuffle(len(list), func(i, j int) { list[i], list[j] = list[j], list[i] })
}

// TestInTime is P23.2, of whatever a node held, beat for beat, and of fabrics at their ends.
func TestInTime(t *testing.T) {
	r := some(235)
	for _, p := range fabrics(t) {
		for range 4 {
			n := node.New(p, 20, r.state())
			// There is room for as many nodes beside the gateways.
			others := []int{20, 21, 22, 23, 24, 25, 26}[:1+r.Intn(min(16-p.N, 6)+1)]
			for range 4 {
				now := r.within(-1<<50, 1<<50)
				heard, widest := r.gates(p, now)
				for _, who := range others {
					heard = append(heard, r.message(who))
				}
				r.shuffle(heard)
				m := n.Beat(api.Input{Ticks: r.num(), Heard: heard})
				if !span.Has(n.S.Span, now) || span.Wide(n.S.Span) > widest+limit.Hop(p) || n.S.Hops != 0 || !n.S.Good || n.Health() == api.Boot || m.Span != n.S.Span {
					t.Fatalf("at %d %+v holds %+v, behind\n%+v", now, p, n.S, heard)
				}
			}
		}
	}
}

// TestStaysInTime is P23.3, beat for beat: a node in whose span the time is keeps it there, whether a neighbour leads it, or gateways do, or nobody does.
func TestStaysInTime(t *testing.T) {
	r := some(237)
	for _, p := range fabrics(t) {
		if p.N == api.MaxNear {
			continue // a neighbour takes a gateway's room
		}
		now := r.within(-1<<50, 1<<50)
		n := node.New(p, 20, api.State{Span: r.around(now, 1000), Good: r.yes(), Hops: 1})
		for beat := range 20 {
			now += p.Beat
			// It is heard in each beat, but most often as one that is too far from the core.
			mate := from(21, r.around(now-p.Beat, 1000))
			mate.Age, mate.Msg.Hops = r.age(p), p.D
			in := api.Input{Ticks: p.Beat + r.off(p.Rho), Heard: []api.Heard{mate}}
			least, wide, hops := span.Wide(n.S.Span)+2*p.Rho, span.Wide(n.S.Span)+2*p.Rho, p.D+1
			switch which := r.Intn(3); {
			case which == 1 && beat > 0:
				in.Heard[0].Msg.Hops = p.D - 1
				least, hops = span.Wide(mate.Msg.Span)+limit.Hop(p), p.D
				wide = least
			case which == 2:
				heard, widest := r.gates(p, now)
				in.Heard = append(in.Heard, heard...)
				least, wide, hops = 0, widest+limit.Hop(p), 0
			}
			n.Beat(in)
			if w := span.Wide(n.S.Span); !span.Has(n.S.Span, now) || w < least || w > wide || n.S.Hops != hops || n.S.Good != (hops <= p.D) {
				t.Fatalf("at %d %+v holds %+v, from %d to %d wide, of %d steps, behind\n%+v", now, p, n.S, least, wide, hops, in)
			}
		}
	}
}

// wantLater holds what a node told to P23.4: its stamp is later than those of the messages known that are Good, and aren't too far ahead.
func wantLater(t *testing.T, n *node.Node, m api.Msg, known []api.Heard) int {
	t.Helper()
	last, heard := sat.Add(n.S.Span.Hi, health.Far(n.P, n.S.Held)), 0
	for _, h := range known {
		s := h.Msg.Stamp
		if h.Msg.Kind != api.FromNode || !h.Msg.Good || !hlc.Right(s) || s.Time > last {
			continue
		}
		heard++
		if !hlc.Less(s, m.Stamp) {
			t.Fatalf("%+v told %+v, not later than all of\n%+v", n, m, known)
		}
	}
	return heard
}

// TestLaterThanHeard is P23.4, of whatever nodes held and hear.
func TestLaterThanHeard(t *testing.T) {
	r := some(238)
	heard := 0
	for range 6000 {
		p, cast := r.params(), r.cast()
		s := r.state()
		n, k := node.New(p, 20, s), newModel(p, 20, s)
		for range 6 {
			in := r.input(cast)
			was := n.S
			m := n.Beat(in)
			known := k.known(in.Heard)
			k.tick()
			if m.Stamp.Time >= most || was.Stamp.Time >= most || was.Life >= most {
				continue // it is clipped
			}
			heard += wantLater(t, n, m, known)
			if !hlc.Less(was.Stamp, m.Stamp) && n.S.Life != was.Life+1 {
				t.Fatalf("it told %v behind %v, in life %d behind %d", m.Stamp, was.Stamp, n.S.Life, was.Life)
			}
		}
	}
	if heard < 5000 {
		t.Errorf("so many stamps were heard: %d", heard)
	}
}

// line is nodes of which each one hears those beside it, and the first one gateways.
type line struct {
	p     api.Params
	r     someone
	now   int
	nodes []*node.Node
	mates []*model // the tests' own knowledge of who is known
	told  []api.Msg
}

func newLine(r someone, p api.Params, n int) *line {
	l := &line{p: p, r: r, now: 1 << 45}
	for i := range n {
		s := r.state()
		l.nodes = append(l.nodes, node.New(p, 16+i, s))
		l.mates = append(l.mates, newModel(p, 16+i, s))
		// What was under way when all began: whatever anybody likes.
		l.told = append(l.told, r.message(16+i).Msg)
	}
	return l
}

// beat lets a beat go by, and answers the width of the widest right gateway's span.
func (l *line) beat(t *testing.T, core bool) int {
	t.Helper()
	l.now += l.p.Beat
	was, widest := append([]api.Msg{}, l.told...), 0
	for i, n := range l.nodes {
		var list []api.Heard
		for _, j := range []int{i - 1, i + 1} {
			if j >= 0 && j < len(was) {
				list = append(list, api.Heard{Msg: was[j], Age: l.r.age(l.p)})
			}
		}
		if core && i == 0 {
			heard, w := l.r.gates(l.p, l.now)
			list, widest = append(list, heard...), w
		}
		l.told[i] = n.Beat(api.Input{Ticks: l.p.Beat + l.r.off(l.p.Rho), Heard: list})
		wantLater(t, n, l.told[i], l.mates[i].known(list))
		l.mates[i].tick()
	}
	return widest
}

// TestLine is P23.2 to P23.4 of many nodes, whatever they held, and was under way: the time is in their spans, each a hop wider than the one ahead, and who is too far is lost; without gateways all are.
func TestLine(t *testing.T) {
	r := some(239)
	for _, p := range fabrics(t) {
		if p.N == api.MaxNear {
			continue // a neighbour takes a gateway's room
		}
		l := newLine(r, p, p.D+3)
		flush, widest := 2*p.D+4, 0
		for beat := range flush + 10 {
			widest = max(widest, l.beat(t, true))
			if beat < flush {
				continue
			}
			for i, n := range l.nodes {
				lost := i > p.D
				if n.S.Hops != min(i, p.D+1) || n.S.Good == lost || (n.Health() == api.Boot) != lost {
					t.Fatalf("beat %d: number %d of %+v holds %+v", beat, i, p, n.S)
				}
				if !lost && (!span.Has(n.S.Span, l.now) || span.Wide(n.S.Span) > widest+(i+1)*limit.Hop(p) || n.S.Held > 3+i) {
					t.Fatalf("beat %d, at %d: number %d of %+v holds %+v", beat, l.now, i, p, n.S)
				}
			}
		}
		for range flush {
			l.beat(t, false)
		}
		for i, n := range l.nodes {
			if n.S.Hops != p.D+1 || n.Health() != api.Boot || i <= p.D && !span.Has(n.S.Span, l.now) {
				t.Fatalf("at %d: number %d of %+v, without gateways, holds %+v", l.now, i, p, n.S)
			}
		}
	}
}

// scribble writes into all of a list, and its spare room.
func scribble[T any](list []T) {
	list = list[:cap(list)]
	var zero T
	for i := range list {
		list[i] = zero
	}
}

// crowd is what gateways and nodes tell, with spare room behind the list, and in their tables, in which something is.
func crowd(who ...int) []api.Heard {
	list := those(append(who, 22, 23)...)
	for i := range list {
		m := &list[i].Msg
		m.Table, m.Stamp = roomy(), stamp(5000, m.From)
		m.Ref, m.Seen, m.Held, m.Pulse = true, lasting(9000, 5), 3, 9
	}
	return slices.Clip(list)[:len(who)]
}

// wantCrowd holds what is heard to what crowd made it, spare room included.
func wantCrowd(t *testing.T, list []api.Heard, who ...int) {
	t.Helper()
	want(t, "what is heard", list[:len(who)+2], crowd(who...)[:len(who)+2])
	for _, h := range list {
		want(t, "a table's spare room", api.Msg{Table: h.Msg.Table[:3]}, api.Msg{Table: roomy()[:3]})
	}
}

// TestHandedIn is P23.5: what is handed in stays as it was, and what is written into it later isn't seen.
func TestHandedIn(t *testing.T) {
	for hops, who := range map[int][]int{0: {3, 1, 21, 2}, 2: {23, 21, 0}, 5: {}} {
		first, given := roomy(), full()
		n := node.New(example(), 20, api.State{Table: first})
		scribble(first)
		want(t, "its table", api.State{Table: n.S.Table}, api.State{Table: table()})
		var last api.Msg
		for range 3 {
			list := crowd(who...)
			m := n.Beat(api.Input{Ticks: 1000, Heard: list, Given: true, Table: given})
			wantCrowd(t, list, who...)
			want(t, "the table that is given", api.State{Table: given}, api.State{Table: full()})
			for _, h := range list {
				scribble(h.Msg.Table)
			}
			scribble(list)
			want(t, "its table", api.State{Table: n.S.Table}, api.State{Table: table()})
			want(t, "the table that it tells", api.State{Table: m.Table}, api.State{Table: table()})
			last = m
		}
		if last.Hops != hops {
			t.Errorf("of %v it is %d steps from the core", who, last.Hops)
		}
	}
}

// TestAnswersAreNew is rule 3: what is written into an answer is seen neither by the node, nor in another answer.
func TestAnswersAreNew(t *testing.T) {
	for _, who := range [][]int{{3, 1, 21, 2}, {23, 21, 0}, {}} {
		n := node.New(example(), 20, api.State{Table: table()})
		n.Beat(api.Input{Ticks: 1000, Heard: crowd(who...)})
		one := n.Beat(api.Input{Ticks: 1000, Heard: crowd(who...)})
		scribble(one.Table)
		want(t, "its table", api.State{Table: n.S.Table}, api.State{Table: table()})
		two := n.Beat(api.Input{Ticks: 1000})
		scribble(one.Table)
		want(t, "the table that it tells then", api.State{Table: two.Table}, api.State{Table: table()})
		near := n.Near()
		scribble(near)
		scribble(n.Near())
		if again := n.Near(); len(again) != len(who) || len(who) > 0 && again[len(who)-1] < 3 {
			t.Errorf("of %v its neighbours are %v", who, again)
		}
	}
}

// TestAgain is rule 4: two nodes that are told the same hold the same, and know nothing of one another.
func TestAgain(t *testing.T) {
	r := some(240)
	for range 1000 {
		p, s, cast := r.params(), r.state(), r.cast()
		one, two, last := node.New(p, 20, s), node.New(p, 20, s), node.New(p, 20, s)
		at := last.S
		for range 5 {
			in := r.input(cast)
			want(t, "what both tell", one.Beat(in), two.Beat(in))
			want(t, "what both hold", one.S, two.S)
			want(t, "their neighbours", one.Near(), two.Near())
		}
		want(t, "the one that nothing befell", last.S, at)
		want(t, "its neighbours", last.Near(), []int{})
	}
}
