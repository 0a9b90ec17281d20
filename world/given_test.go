package world_test

import (
	"reflect"
	"slices"
	"testing"

	"clepsydra/api"
)

// scribble writes into all of a list, and its spare room.
func scribble[T any](list []T, x T) {
	list = list[:cap(list)]
	for i := range list {
		list[i] = x
	}
}

// roomy is a list with spare room, in which something is.
func roomy[T any](x T, list ...T) []T {
	n := len(list)
	return append(slices.Clone(list), x, x, x)[:n]
}

// full is a step that names something in each of its lists, all of which have spare room.
func full(at int) api.Step {
	l, m := way(0, 16), frame(said(1, 1, lasting(at-1000, 50)))
	return api.Step{
		Ticks: roomy(api.Tick{Who: 0, Ticks: 1}, api.Tick{Who: 16, Ticks: 1001}, api.Tick{Who: 0, Ticks: 999}),
		Reads: roomy(reads(0, 1), reads(0, at), api.Read{Gate: 0, Given: true, Table: roomy(other()[0], table()...)}, reads(2, at), reads(3, at)),
		Ages:  roomy(api.Aged{Way: l, Ticks: 1}, api.Aged{Way: l, Ticks: 7}, api.Aged{Way: l, Ticks: 905}),
		Lost:  roomy(l, way(2, 17), way(16, 17)),
		Lies:  roomy(api.Lie{Way: l, Frame: "y"}, api.Lie{Way: way(1, 16), Frame: "x"}, api.Lie{Way: way(1, 16), Frame: m}),
		Off:   roomy(0, 40, 3),
		Cut:   roomy(way(0, 1), way(1, 2), way(2, 1)),
		Join:  roomy(way(1, 0), way(1, 2), way(0, 3)),
	}
}

// spares are all entries of a step, those in spare room, too.
func spares(s api.Step) []any {
	all := []any{slices.Clone(s.Ticks[:cap(s.Ticks)]), slices.Clone(s.Reads[:cap(s.Reads)]), slices.Clone(s.Ages[:cap(s.Ages)]), slices.Clone(s.Lost[:cap(s.Lost)]),
		slices.Clone(s.Lies[:cap(s.Lies)]), slices.Clone(s.Off[:cap(s.Off)]), slices.Clone(s.Cut[:cap(s.Cut)]), slices.Clone(s.Join[:cap(s.Join)])}
	for _, x := range s.Reads {
		all = append(all, slices.Clone(x.Table[:cap(x.Table)]))
	}
	return all
}

// spoil writes into all of a step.
func spoil(s api.Step) {
	for _, x := range s.Reads {
		scribble(x.Table, api.Leap{At: 5, Off: 5})
	}
	scribble(s.Ticks, api.Tick{Who: 16, Ticks: 5})
	scribble(s.Reads, reads(0, 5))
	scribble(s.Ages, api.Aged{Way: way(0, 16), Ticks: 5})
	scribble(s.Lost, way(0, 16))
	scribble(s.Lies, api.Lie{Way: way(0, 16), Frame: "z"})
	scribble(s.Off, 16)
	scribble(s.Cut, way(0, 1))
	scribble(s.Join, way(0, 2))
}

// TestHandedIn is P24.4: what is handed in stays as it was, spare room included, and what is written into it later isn't seen.
func TestHandedIn(t *testing.T) {
	p, first := example(), roomy(other()[0], table()...)
	core, links := roomy(3, 0, 9, 1), roomy(way(2, 3), way(0, 1), way(9, 9), way(1, 2))
	w, twin := begun(t, p, 4, core, links...), begun(t, p, 4, []int{0, 1}, way(0, 1), way(1, 2))
	if !slices.Equal(core[:cap(core)][:6], []int{0, 9, 1, 3, 3, 3}) || !slices.Equal(links[:cap(links)][:6], []api.Way{way(0, 1), way(9, 9), way(1, 2), way(2, 3), way(2, 3), way(2, 3)}) {
		t.Errorf("what New is handed is %v and %v", core[:cap(core)], links[:cap(links)])
	}
	scribble(core, 2)
	scribble(links, way(2, 3))
	for _, who := range []int{1, 17} {
		w.Begin(who, api.State{Table: first})
		twin.Begin(who, api.State{Table: table()})
	}
	if !slices.Equal(first[:cap(first)][:5], append(table(), other()[0], other()[0], other()[0])) {
		t.Errorf("what Begin is handed is %v", first[:cap(first)])
	}
	scribble(first, api.Leap{At: 5, Off: 5})
	for i := range 8 {
		s := full(i * 1000)
		was := spares(s)
		goes(t, w, s)
		if !reflect.DeepEqual(spares(s), was) {
			t.Fatalf("what Beat is handed was\n%+v, and is\n%+v", was, spares(s))
		}
		spoil(s)
		goes(t, twin, full(i*1000))
		for who := range 48 {
			want(t, "what both hold", w.Front(who), twin.Front(who))
		}
	}
	want(t, "a table that was given", api.State{Table: w.Front(0).S.Table}, api.State{Table: table()})
	want(t, "a table that was held", api.State{Table: w.Front(1).S.Table}, api.State{Table: table()})
	want(t, "what waits", waitings(w), waitings(twin))
}

// TestApart is rule 4: two worlds that are told the same hold the same, and know nothing of one another.
func TestApart(t *testing.T) {
	r := some(246)
	for range 60 {
		p, nodes := r.params(), r.Intn(7)
		core, links := r.core(nodes), r.links(nodes, 2*nodes)
		one, two, last := begun(t, p, nodes, core, links...), begun(t, p, nodes, core, links...), begun(t, p, nodes, core, links...)
		at := newModel(p, nodes, core, links)
		for i := range 8 {
			s := r.step(p, nodes, (i+5)*p.Beat, r.yes())
			goes(t, one, s)
			goes(t, two, s)
			for who := range 48 {
				want(t, "what both hold", one.Front(who), two.Front(who))
			}
		}
		wantModel(t, last, at)
		wantWaits(t, last, at)
		want(t, "what waits in both", waitings(one), waitings(two))
	}
}
