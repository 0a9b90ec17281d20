package world_test

import (
	"math"
	"slices"
	"strings"
	"testing"

	"clepsydra/api"
	"clepsydra/carry"
	"clepsydra/gate"
	"clepsydra/health"
	"clepsydra/node"
	"clepsydra/world"
)

// begun is a world of such numbers; there must be one.
func begun(t *testing.T, p api.Params, nodes int, core []int, links ...api.Way) *world.World {
	t.Helper()
	w, e := world.New(p, nodes, core, links)
	if w == nil || e != api.OK {
		t.Fatalf("no world of %+v, %d nodes, %v, %v: %d", p, nodes, core, links, e)
	}
	return w
}

// goes lets a beat go by.
func goes(t *testing.T, w *world.World, s api.Step) {
	t.Helper()
	if e := w.Beat(s); e != api.OK {
		t.Fatalf("a beat with %+v: %d", s, e)
	}
}

func reads(who, at int) api.Read { return api.Read{Gate: who, Is: true, Reading: at} }

// TestExample is the chapter's.
func TestExample(t *testing.T) {
	w := begun(t, fabric(1, 0), 1, []int{0})
	goes(t, w, api.Step{Reads: []api.Read{reads(0, 5000)}})
	if w.Front(0).Health() != api.Synced || w.Front(16).Health() != api.Boot {
		t.Errorf("behind a beat their healths are %d and %d", w.Front(0).Health(), w.Front(16).Health())
	}
	want(t, "the gateway's span", w.Front(0).S.Span, lasting(5000, 50))
	goes(t, w, api.Step{})
	if w.Front(0).Health() != api.Synced || w.Front(16).Health() != api.Synced {
		t.Errorf("behind two their healths are %d and %d", w.Front(0).Health(), w.Front(16).Health())
	}
	// The message took from 90 to 100 ticks, and waited for 900, of which a clock may be wrong by 1.
	want(t, "the node's span", w.Front(16).S.Span, api.Span{Lo: 5000 - 50 + 90 + 900 - 1, Hi: 5000 + 50 + 100 + 900 + 1})
}

// TestNew is P24.1's New: so many units of the zero state, at the time 0.
func TestNew(t *testing.T) {
	for _, x := range []struct{ gates, nodes int }{{1, 0}, {1, 1}, {4, 3}, {16, 0}, {16, 32}, {2, 32}} {
		p := fabric(x.gates, 0)
		w := begun(t, p, x.nodes, nil)
		for who := -2; who < 60; who++ {
			f := w.Front(who)
			if is := who >= 0 && who < x.gates || who >= 16 && who < 16+x.nodes; is != (f != nil) {
				t.Fatalf("%d gateways, %d nodes: there is %v of the number %d", x.gates, x.nodes, f, who)
			}
			if f != nil {
				want(t, "what a unit holds at first", f, &health.Front{P: p})
			}
		}
		if w.Time() != 0 {
			t.Errorf("the true time is %d", w.Time())
		}
		want(t, "what waits at first", waitings(w), map[api.Way]int{})
	}
	none := begun(t, fabric(1, 0), 0, nil)
	for _, who := range []int{math.MinInt, -1, 1, 16, math.MaxInt} {
		if none.Front(who) != nil {
			t.Errorf("there is a unit of the number %d", who)
		}
	}
}

// TestNewOfWrongNumbers is P24.1's New of what can't be: no world, and ErrArg.
func TestNewOfWrongNumbers(t *testing.T) {
	for _, nodes := range []int{math.MinInt, -1, 33, 34, 1 << 32, math.MaxInt} {
		if w, e := world.New(example(), nodes, nil, nil); w != nil || e != api.ErrArg {
			t.Errorf("of %d nodes: %v, %d", nodes, w, e)
		}
	}
	for what, change := range map[string]func(*api.Params){
		"no numbers":       func(p *api.Params) { *p = api.Params{} },
		"no gateways":      func(p *api.Params) { p.N, p.F = 0, 0 },
		"a gateway more":   func(p *api.Params) { p.N = 17 },
		"F above a third":  func(p *api.Params) { p.F = 2 },
		"steps above 16":   func(p *api.Params) { p.D, p.Hold = 17, 30 },
		"a clock as wrong": func(p *api.Params) { p.Rho, p.Mu = 126, 200 },
		"a long way":       func(p *api.Params) { p.Delay = 501 },
		"a short Hold":     func(p *api.Params) { p.Hold = 3 },
		"no pulse":         func(p *api.Params) { p.Pulse = 0 },
		"no second":        func(p *api.Params) { p.Second = 0 },
	} {
		p := example()
		change(&p)
		if w, e := world.New(p, 1, []int{0}, nil); w != nil || e != api.ErrArg {
			t.Errorf("%s: %v, %d", what, w, e)
		}
	}
}

// waitings is how many frames wait on each way on which one does.
func waitings(w *world.World) map[api.Way]int {
	out := map[api.Way]int{}
	for from := range 48 {
		for to := range 48 {
			if w.Front(to) == nil {
				continue
			}
			if n := waiting(w, way(from, to)); n > 0 {
				out[way(from, to)] = n
			}
		}
	}
	return out
}

// once is a frame on each of these ways.
func once(list ...api.Way) map[api.Way]int {
	out := map[api.Way]int{}
	for _, l := range list {
		out[l] = 1
	}
	return out
}

// both are the two ways between units.
func both(a, b int) []api.Way { return []api.Way{way(a, b), way(b, a)} }

// TestWays is P24.1's ways: along each of them one frame is under way behind a beat, however often it was named, and none elsewhere.
func TestWays(t *testing.T) {
	two := both(0, 1)
	wrong := []api.Way{way(0, 4), way(4, 0), way(-1, 0), way(0, -16), way(-16, -15), way(-15, 0), way(16, 17), way(1, 1), way(math.MaxInt, 0), way(math.MinInt, 1), way(3, 3)}
	for _, x := range []struct {
		what  string
		core  []int
		links []api.Way
		ways  []api.Way
	}{
		{"gateways alone", nil, nil, two},
		{"a node that hears the core", []int{1}, nil, slices.Concat(two, []api.Way{way(0, 17), way(1, 17)})},
		{"two, of which one is named twice", []int{3, 0, 3}, nil, slices.Concat(two, []api.Way{way(0, 16), way(1, 16), way(0, 19), way(1, 19)})},
		{"nodes that aren't there", []int{-1, 4, -16, 16, math.MinInt, math.MaxInt}, nil, two},
		{"a link", nil, []api.Way{way(0, 2)}, slices.Concat(two, both(16, 18))},
		{"links, some twice", nil, []api.Way{way(2, 0), way(0, 2), way(3, 2), way(2, 0)}, slices.Concat(two, both(16, 18), both(18, 19))},
		{"links that can't be", nil, wrong, two},
		{"both", []int{2}, append([]api.Way{way(1, 2)}, wrong...), slices.Concat(two, []api.Way{way(0, 18), way(1, 18)}, both(17, 18))},
	} {
		w := begun(t, fabric(2, 0), 4, x.core, x.links...)
		goes(t, w, api.Step{})
		want(t, x.what, waitings(w), once(x.ways...))
	}
}

// TestCutAndJoin is P24.1's first part of a beat: links are gone, and there, in the beat in which they are named, and stay so.
func TestCutAndJoin(t *testing.T) {
	first, second := both(16, 17), both(17, 18)
	for _, x := range []struct {
		what      string
		cut, join []api.Way
		ways      []api.Way
	}{
		{"nothing", nil, nil, slices.Concat(first, second)},
		{"a cut", []api.Way{way(0, 1)}, nil, second},
		{"the other way round", []api.Way{way(1, 0)}, nil, second},
		{"twice", []api.Way{way(2, 1), way(1, 2)}, nil, first},
		{"both", []api.Way{way(2, 1), way(0, 1)}, nil, nil},
		{"none that is there", []api.Way{way(0, 2), way(0, 0), way(0, 3), way(-1, 0)}, nil, slices.Concat(first, second)},
		{"no link of nodes", []api.Way{way(-16, -15), way(-15, -16), way(-16, 0), way(0, -16), way(16, 17), way(0, 16), way(math.MinInt, math.MaxInt)}, nil, slices.Concat(first, second)},
		{"a join", nil, []api.Way{way(0, 2)}, slices.Concat(first, second, both(16, 18))},
		{"twice there", nil, []api.Way{way(2, 0), way(0, 2), way(1, 0)}, slices.Concat(first, second, both(16, 18))},
		{"none that can be", nil, []api.Way{way(0, 0), way(0, 3), way(3, 1), way(-1, 0), way(0, -16), way(-16, -15), way(16, 17), way(math.MaxInt, 0)}, slices.Concat(first, second)},
		{"a cut, and then a join", []api.Way{way(0, 1)}, []api.Way{way(1, 0)}, slices.Concat(first, second)},
		{"one cut, the other joined", []api.Way{way(0, 1), way(0, 2)}, []api.Way{way(0, 2)}, slices.Concat(second, both(16, 18))},
	} {
		w := begun(t, fabric(2, 0), 3, []int{0}, way(0, 1), way(1, 2))
		stay := slices.Concat(both(0, 1), []api.Way{way(0, 16), way(1, 16)})
		goes(t, w, api.Step{Cut: x.cut, Join: x.join})
		want(t, x.what, waitings(w), once(slices.Concat(stay, x.ways)...))
		goes(t, w, api.Step{})
		want(t, x.what+", and a beat later", waitings(w), once(slices.Concat(stay, x.ways)...))
	}
}

// TestCutWhileUnderWay is P24.1's beat: what was sent ahead of a cut comes all the same; behind it nothing does.
func TestCutWhileUnderWay(t *testing.T) {
	w := begun(t, fabric(1, 0), 2, []int{0}, way(0, 1))
	for range 4 {
		goes(t, w, api.Step{Reads: []api.Read{reads(0, 5000)}})
	}
	if w.Front(17).S.Hops != 1 {
		t.Fatalf("it holds %+v", w.Front(17).S)
	}
	for i, hops := range []int{1, 3} {
		goes(t, w, api.Step{Cut: []api.Way{way(0, 1)}})
		if w.Front(17).S.Hops != hops {
			t.Errorf("%d beats behind the cut it holds %+v", i, w.Front(17).S)
		}
	}
	goes(t, w, api.Step{Join: []api.Way{way(0, 1)}})
	for i, hops := range []int{3, 1} {
		goes(t, w, api.Step{})
		if w.Front(17).S.Hops != hops {
			t.Errorf("%d beats behind the join it holds %+v", i+1, w.Front(17).S)
		}
	}
}

// TestPut is P24.1's Put: whose number there must be, what may wait, and how much.
func TestPut(t *testing.T) {
	w := begun(t, fabric(2, 0), 2, nil)
	for _, x := range []struct {
		l    api.Way
		size int
		e    api.Errno
	}{
		{way(0, 0), 0, api.OK}, {way(0, 1), 4096, api.OK}, {way(47, 17), 1, api.OK}, {way(30, 16), 1, api.OK}, {way(17, 17), 1, api.OK},
		{way(0, 2), 1, api.ErrArg}, {way(0, 15), 1, api.ErrArg}, {way(0, 18), 1, api.ErrArg}, {way(0, 48), 1, api.ErrArg}, {way(0, -1), 1, api.ErrArg},
		{way(0, math.MinInt), 1, api.ErrArg}, {way(0, math.MaxInt), 1, api.ErrArg}, {way(0, 2), 5000, api.ErrArg},
		{way(-1, 0), 1, api.ErrArg}, {way(48, 0), 1, api.ErrArg}, {way(math.MinInt, 16), 1, api.ErrArg}, {way(math.MaxInt, 17), 5000, api.ErrArg},
		{way(0, 1), 4097, api.ErrLong}, {way(16, 17), 5000, api.ErrLong},
	} {
		if e := w.Put(x.l, strings.Repeat("x", x.size)); e != x.e {
			t.Errorf("%d bytes along %v: %d", x.size, x.l, e)
		}
	}
	want(t, "what waits", waitings(w), once(way(0, 0), way(0, 1), way(47, 17), way(30, 16), way(17, 17)))
	for range 3 {
		if e := w.Put(way(3, 16), ""); e != api.ErrFull {
			t.Errorf("one more than may wait: %d", e)
		}
	}
	if w.Put(way(3, 16), strings.Repeat("x", 4097)) != api.ErrLong {
		t.Error("one too long, where as many wait as may")
	}
}

// listener is a world of so many gateways, and one node, to which no way leads: it hears what the tests put under way to it.
func listener(t *testing.T, n, f int) *world.World { return begun(t, fabric(n, f), 1, nil) }

// put puts frames under way to one, each from its own.
func put(t *testing.T, w *world.World, to int, msgs ...api.Msg) {
	t.Helper()
	for _, m := range msgs {
		if e := w.Put(way(m.From, to), frame(m)); e != api.OK {
			t.Fatalf("a message of %d to %d: %d", m.From, to, e)
		}
	}
}

// wantHops holds a unit's steps to the core.
func wantHops(t *testing.T, what string, w *world.World, who, hops int) {
	t.Helper()
	if s := w.Front(who).S; s.Hops != hops {
		t.Errorf("%s: the unit %d is %d steps from the core, not %d: %+v", what, who, s.Hops, hops, s)
	}
}

// TestOwnName is P24.1's second part of a beat: a frame is heard if it bears the number of its lane, and else as nobody's.
func TestOwnName(t *testing.T) {
	for _, x := range []struct {
		what string
		from []int // what stands in the frames of the gateways' lanes
		hops int
	}{
		{"their own", []int{0, 1, 2}, 0},
		{"all of them", []int{0, 1, 2, 3}, 0},
		{"two of them", []int{0, 1}, 3},
		{"three, and one in another one's name", []int{0, 1, 2, 0}, 0},
		{"two, and one in the name of one that is quiet", []int{0, 1, 3}, 3},
		{"two, and two that change names", []int{0, 1, 3, 2}, 3},
		{"two, and one in a node's name", []int{0, 1, 16}, 3},
		{"all say that they are one", []int{3, 3, 3}, 3},
		{"they say that they are one another", []int{2, 0, 1}, 3},
		{"or nodes", []int{16, 47, 20}, 3},
	} {
		w := listener(t, 4, 1)
		for lane, from := range x.from {
			w.Put(way(lane, 16), frame(said(1, from, lasting(4000, 50))))
		}
		goes(t, w, api.Step{})
		wantHops(t, x.what, w, 16, x.hops)
	}
	// In one lane only one gateway speaks.
	w := listener(t, 4, 1)
	for from := range 4 {
		w.Put(way(0, 16), frame(said(1, from, lasting(4000, 50))))
	}
	goes(t, w, api.Step{})
	wantHops(t, "one speaks for all, by their numbers", w, 16, 3)
}

// TestOwnNameOfAny is P24.1 of each lane, and each number that a frame may bear: one that bears another is taken, and not heard.
func TestOwnNameOfAny(t *testing.T) {
	w := listener(t, 16, 0)
	for lane := range 48 {
		for from := range 48 {
			kind, hops := 1, 0
			if from >= 16 {
				kind, hops = 2, 1
			}
			// Nobody is his own neighbour.
			if from != lane || from == 16 {
				hops = 3
			}
			w.Begin(16, api.State{})
			for range 2 {
				w.Put(way(lane, 16), frame(said(kind, from, lasting(4000, 50))))
				goes(t, w, api.Step{})
			}
			wantHops(t, "behind two frames", w, 16, hops)
			want(t, "how many wait", waiting(w, way(lane, 16)), 0)
		}
	}
}

// TestOwnNameOfGateways is P24.1 of what a gateway hears: the other one by its own lane, and nothing by its own.
func TestOwnNameOfGateways(t *testing.T) {
	for _, x := range []struct {
		lane, from int
		good       bool
	}{{1, 1, true}, {1, 0, false}, {0, 1, false}, {0, 0, false}, {1, 2, false}, {2, 1, false}, {16, 1, false}} {
		w := listener(t, 2, 0)
		w.Put(way(x.lane, 0), frame(said(1, x.from, lasting(4000, 50))))
		goes(t, w, api.Step{})
		if w.Front(0).S.Good != x.good {
			t.Errorf("by a frame of %d in the lane %d the gateway 0 holds %+v", x.from, x.lane, w.Front(0).S)
		}
	}
}

// TestOwnNameBesideOthers is P24.1 of frames in another one's name: those of the same lane, and of the one whom they name, are heard all the same.
func TestOwnNameBesideOthers(t *testing.T) {
	other, own := frame(said(1, 1, lasting(9000, 50))), frame(said(1, 0, lasting(4000, 50)))
	for _, list := range [][]string{{other, own}, {own, other}, {other, other, own, other}} {
		w := listener(t, 2, 0)
		for _, s := range list {
			w.Put(way(0, 16), s)
		}
		goes(t, w, api.Step{})
		want(t, "the span in its own name", w.Front(16).S.Span, carry.Way(fabric(2, 0), lasting(4000, 50), 900))
		// Now the one that is named comes behind, and would be passed over, had the first one been heard.
		w = listener(t, 2, 0)
		w.Put(way(0, 16), other)
		w.Put(way(1, 16), frame(said(1, 1, lasting(4000, 50))))
		goes(t, w, api.Step{})
		want(t, "the span of the one that was named", w.Front(16).S.Span, carry.Way(fabric(2, 0), lasting(4000, 50), 900))
	}
}

// TestOtherNameIsNobodys is P24.1 of a node's frame in another one's name: neither of both was heard in that beat.
func TestOtherNameIsNobodys(t *testing.T) {
	own, other := frame(said(2, 17, lasting(4000, 50))), frame(said(2, 18, lasting(4000, 50)))
	w := listener(t, 1, 0)
	for i, x := range []struct {
		lane int
		s    string
		hops int
	}{{17, own, 3}, {17, own, 1}, {17, other, 3}, {17, own, 3}, {18, own, 3}, {17, own, 3}, {17, own, 1}} {
		w.Put(way(x.lane, 16), x.s)
		goes(t, w, api.Step{})
		if s := w.Front(16).S; s.Hops != x.hops {
			t.Errorf("beat %d: it holds %+v", i, s)
		}
	}
}

// TestHeardFromNobody is P24.1 of lanes whose unit there isn't: what waits there is heard, too.
func TestHeardFromNobody(t *testing.T) {
	w := listener(t, 1, 0)
	for range 2 {
		put(t, w, 16, said(2, 40, lasting(4000, 50)))
		goes(t, w, api.Step{})
	}
	wantHops(t, "it follows a node that isn't there", w, 16, 1)
}

// TestUndecoded is P24.1 of frames that don't decode: they aren't heard, and those behind them are.
func TestUndecoded(t *testing.T) {
	good := frame(said(1, 0, lasting(4000, 50)))
	for what, s := range map[string]string{"none": "", "a bit turned": turned(good), "a byte less": good[1:], "a byte more": good + "x", "bytes": strings.Repeat("x", 4096)} {
		w := listener(t, 1, 0)
		w.Put(way(0, 16), s)
		goes(t, w, api.Step{})
		wantHops(t, what, w, 16, 3)
		w.Put(way(0, 16), s)
		w.Put(way(0, 16), good)
		goes(t, w, api.Step{})
		wantHops(t, what+", and a good one", w, 16, 0)
	}
}

// TestUndecodedIsNobodys is P24.1 of a node's frame that doesn't decode: the node wasn't heard in that beat.
func TestUndecodedIsNobodys(t *testing.T) {
	good := frame(said(2, 17, lasting(4000, 50)))
	w := listener(t, 1, 0)
	for i, x := range []struct {
		s    string
		hops int
	}{{turned(good), 3}, {good, 3}, {turned(good), 3}, {good, 3}, {good, 1}} {
		w.Put(way(17, 16), x.s)
		goes(t, w, api.Step{})
		if s := w.Front(16).S; s.Hops != x.hops {
			t.Errorf("beat %d: it holds %+v", i, s)
		}
	}
}

// TestOrder is P24.1 of the order in which frames are heard: by rising lanes, and in each as they came.
func TestOrder(t *testing.T) {
	w := listener(t, 1, 0)
	put(t, w, 16, said(1, 0, lasting(4000, 5)), said(1, 0, lasting(4000, 7)), said(1, 0, lasting(4000, 3)))
	goes(t, w, api.Step{})
	want(t, "the first of a lane", w.Front(16).S.Span, api.Span{Lo: 4000 - 5 + 989, Hi: 4000 + 5 + 1001})
	// There is room for 16 neighbours: those of the highest lanes, which came first, have none.
	for _, x := range []struct{ last, hops int }{{32, 2}, {33, 3}} {
		w = listener(t, 1, 0)
		for range 2 {
			for from := x.last; from > 16; from-- {
				m := said(2, from, lasting(4000, 50))
				m.Hops = 2
				if from == x.last {
					m.Hops = 1
				}
				put(t, w, 16, m)
			}
			goes(t, w, api.Step{})
		}
		wantHops(t, "so many nodes are heard", w, 16, x.hops)
	}
}

// TestAllAreTaken is P24.1 of what was taken out of the lanes: it is there no more, be it heard or not.
func TestAllAreTaken(t *testing.T) {
	w := begun(t, fabric(1, 0), 2, nil)
	good := frame(said(1, 0, lasting(4000, 50)))
	for i := range 64 {
		w.Put(way(0, 16), good[i%2:])
		w.Put(way(47, 17), good)
		w.Put(way(0, 0), good)
		w.Put(way(5, 16), good)
		w.Put(way(16, 16), "x")
	}
	goes(t, w, api.Step{Off: []int{17}})
	want(t, "what waits", waitings(w), map[api.Way]int{})
}

// TestAge is P24.1 of ages: those of the last of Ages for the way that a frame came, or what is left of a beat.
func TestAge(t *testing.T) {
	for _, x := range []struct {
		what string
		ages []api.Aged
		age  int
	}{
		{"none", nil, 900},
		{"one", []api.Aged{{Way: way(0, 16), Ticks: 905}}, 905},
		{"the last one", []api.Aged{{Way: way(0, 16), Ticks: 905}, {Way: way(0, 16), Ticks: 0}}, 0},
		{"of other ways", []api.Aged{{Way: way(16, 0), Ticks: 905}, {Way: way(1, 16), Ticks: 7}, {Way: way(0, 17), Ticks: 8}}, 900},
		{"others behind it", []api.Aged{{Way: way(0, 16), Ticks: -3}, {Way: way(16, 0), Ticks: 905}, {Way: way(0, 1), Ticks: 7}}, -3},
		{"beyond all", []api.Aged{{Way: way(0, 16), Ticks: math.MaxInt}}, math.MaxInt},
		{"below all", []api.Aged{{Way: way(0, 16), Ticks: math.MinInt}}, math.MinInt},
	} {
		w := listener(t, 1, 0)
		put(t, w, 16, said(1, 0, lasting(4000, 50)))
		goes(t, w, api.Step{Ages: x.ages})
		s := w.Front(16).S
		want(t, x.what, s.Span, carry.Way(fabric(1, 0), lasting(4000, 50), x.age))
	}
}

// TestTicks is P24.1 of what a clock tells: the Ticks of the last that names it, or a beat.
func TestTicks(t *testing.T) {
	for _, x := range []struct {
		what     string
		ticks    []api.Tick
		gate, at int // where the gateway's and the node's spans, from 0 on, then end, but for Rho
	}{
		{"none", nil, 1000, 1000},
		{"one", []api.Tick{{Who: 0, Ticks: 1003}}, 1003, 1000},
		{"each", []api.Tick{{Who: 16, Ticks: 7}, {Who: 0, Ticks: -5}}, -5, 7},
		{"the last ones", []api.Tick{{Who: 16, Ticks: 7}, {Who: 0, Ticks: 5}, {Who: 16, Ticks: 0}, {Who: 0, Ticks: 8}}, 8, 0},
		{"others", []api.Tick{{Who: 1, Ticks: 7}, {Who: 17, Ticks: 5}, {Who: -1, Ticks: 2}, {Who: 48, Ticks: 3}}, 1000, 1000},
	} {
		w := listener(t, 1, 0)
		w.Begin(0, api.State{Good: true})
		w.Begin(16, api.State{})
		goes(t, w, api.Step{Ticks: x.ticks})
		want(t, x.what+": the gateway", w.Front(0).S.Span, lasting(x.gate, 1))
		want(t, x.what+": the node", w.Front(16).S.Span, lasting(x.at, 1))
	}
}

// TestReads is P24.1 of references: the last that names a gateway and Is, and the last that names it and is Given, each by itself.
func TestReads(t *testing.T) {
	given := func(who int, list []api.Leap) api.Read { return api.Read{Gate: who, Given: true, Table: list} }
	full := api.Read{Gate: 0, Is: true, Reading: 7000, Given: true, Table: other()}
	blank := api.Read{Gate: 0, Reading: 9000, Table: other()}
	for _, x := range []struct {
		what  string
		reads []api.Read
		is    bool
		at    int
		table []api.Leap
	}{
		{"none", nil, false, 0, table()},
		{"a reading", []api.Read{reads(0, 5000)}, true, 5000, table()},
		{"the last reading", []api.Read{reads(0, 5000), reads(0, 6000)}, true, 6000, table()},
		{"of others", []api.Read{reads(1, 5000), reads(16, 6000), reads(-1, 7000), given(1, other()), given(16, other())}, false, 0, table()},
		{"others behind it", []api.Read{reads(0, 5000), reads(1, 6000), reads(17, 7000)}, true, 5000, table()},
		{"one that tells nothing", []api.Read{blank}, false, 0, table()},
		{"that behind others", []api.Read{full, blank}, true, 7000, other()},
		{"a table", []api.Read{given(0, other())}, false, 0, other()},
		{"the last table", []api.Read{given(0, table()), given(0, other())}, false, 0, other()},
		{"a table of none", []api.Read{given(0, nil)}, false, 0, nil},
		{"a table that can't be", []api.Read{given(0, bad())}, false, 0, nil},
		{"both at once", []api.Read{full}, true, 7000, other()},
		{"a reading, then a table", []api.Read{reads(0, 5000), given(0, other())}, true, 5000, other()},
		{"both, and then a table", []api.Read{full, given(0, nil)}, true, 7000, nil},
		{"both, and then a reading", []api.Read{full, reads(0, 5000)}, true, 5000, other()},
	} {
		w := begun(t, fabric(1, 0), 1, nil)
		w.Begin(0, api.State{Table: table()})
		w.Begin(16, api.State{Table: table()})
		goes(t, w, api.Step{Reads: x.reads})
		s := w.Front(0).S
		want(t, x.what, api.State{Table: s.Table, Good: s.Good}, api.State{Table: x.table, Good: x.is})
		if x.is {
			want(t, x.what, s.Span, lasting(x.at, 50))
		}
		s = w.Front(16).S
		want(t, x.what+": a node never reads", api.State{Table: s.Table, Good: s.Good}, api.State{Table: table()})
	}
}

// TestOff is P24.1 of who is off: its beat doesn't end, it sends nothing, and what waited for it is gone.
func TestOff(t *testing.T) {
	w := begun(t, fabric(2, 0), 2, []int{0, 1}, way(0, 1))
	// A lie isn't sent by who is off, either.
	s := api.Step{Reads: []api.Read{reads(0, 5000), reads(1, 5000)}, Lies: []api.Lie{{Way: way(1, 16), Frame: frame(said(1, 1, lasting(9000, 50)))}}}
	for range 3 {
		goes(t, w, s)
	}
	was := []api.State{w.Front(1).S, w.Front(16).S}
	s.Off = []int{16, 1, -1, 48}
	goes(t, w, s)
	want(t, "a gateway that is off", w.Front(1).S, was[0])
	want(t, "a node that is off", w.Front(16).S, was[1])
	goes(t, w, s)
	wantHops(t, "who hears the other gateway alone", w, 17, 0)
	want(t, "what is under way", waitings(w), once(way(0, 1), way(0, 16), way(0, 17), way(17, 16)))
	s.Off = []int{0, 1}
	goes(t, w, s)
	goes(t, w, s)
	want(t, "without both gateways", waitings(w), once(both(16, 17)...))
	wantHops(t, "who hears nobody", w, 17, 3)
}

// TestOffMissesFrames is P24.1 of who is off: it never hears what came while it was.
func TestOffMissesFrames(t *testing.T) {
	w := listener(t, 1, 0)
	put(t, w, 16, said(1, 0, lasting(4000, 50)))
	goes(t, w, api.Step{Off: []int{16}})
	goes(t, w, api.Step{})
	wantHops(t, "a frame that came while it was off", w, 16, 3)
}

// TestNotInTheSameBeat is P24.1's third part of a beat: what one tells is heard in the next beat, whoever is asked first.
func TestNotInTheSameBeat(t *testing.T) {
	w := begun(t, fabric(2, 0), 3, []int{0}, way(0, 1), way(1, 2))
	for i, good := range [][]int{{0}, {0, 1, 16}, {0, 1, 16, 17}, {0, 1, 16, 17, 18}} {
		goes(t, w, api.Step{Reads: []api.Read{reads(0, 5000)}, Lost: []api.Way{way(1, 16)}})
		for _, who := range []int{0, 1, 16, 17, 18} {
			if w.Front(who).S.Good != slices.Contains(good, who) {
				t.Errorf("beat %d: the unit %d holds %+v", i, who, w.Front(who).S)
			}
		}
	}
	// The other way round, too: the first one hears what the last one told a beat ago.
	w = begun(t, fabric(2, 0), 0, nil)
	for i, good := range []bool{false, true} {
		goes(t, w, api.Step{Reads: []api.Read{reads(1, 5000)}})
		if w.Front(0).S.Good != good {
			t.Errorf("beat %d: the gateway 0 holds %+v", i, w.Front(0).S)
		}
	}
}

// TestLost is P24.1 of ways that lose what is sent: just these do, in that beat alone, lies among it.
func TestLost(t *testing.T) {
	all := []api.Way{way(0, 1), way(1, 0), way(0, 16), way(1, 16), way(16, 17), way(17, 16)}
	w := begun(t, fabric(2, 0), 2, []int{0}, way(0, 1))
	for i, l := range all {
		s := api.Step{Lost: []api.Way{way(0, 40), l, way(l.To+5, l.From), l}, Lies: []api.Lie{{Way: l, Frame: "x"}}}
		goes(t, w, s)
		want(t, "all but the one that is lost", waitings(w), once(slices.Delete(slices.Clone(all), i, i+1)...))
		goes(t, w, api.Step{})
		want(t, "a beat later", waitings(w), once(all...))
	}
	goes(t, w, api.Step{Lost: all})
	want(t, "all are lost", waitings(w), map[api.Way]int{})
}

// TestLies is P24.1 of what gateways send in the place of their own frames.
func TestLies(t *testing.T) {
	lie := func(from, to, at int) api.Lie {
		return api.Lie{Way: way(from, to), Frame: frame(said(1, 0, lasting(at, 50)))}
	}
	text := func(from, to int, s string) api.Lie { return api.Lie{Way: way(from, to), Frame: s} }
	const none = -1
	for _, x := range []struct {
		what      string
		lies      []api.Lie
		one, next int // what the nodes 16 and 17 hear of the gateway, or none
	}{
		{"nothing", nil, 5000, 5000},
		{"to one", []api.Lie{lie(0, 16, 7000)}, 7000, 5000},
		{"to each another one", []api.Lie{lie(0, 17, 8000), lie(0, 16, 7000)}, 7000, 8000},
		{"the last one", []api.Lie{lie(0, 16, 7000), lie(0, 16, 9000), lie(0, 17, 7000)}, 9000, 7000},
		{"along other ways", []api.Lie{lie(0, 18, 7000), lie(1, 16, 7000), lie(16, 0, 7000), lie(0, 0, 7000), lie(-1, 16, 7000)}, 5000, 5000},
		{"a frame that doesn't decode", []api.Lie{lie(0, 17, 7000), text(0, 17, "x")}, 5000, none},
		{"none at all", []api.Lie{text(0, 16, "")}, none, 5000},
		{"in another one's name", []api.Lie{text(0, 16, frame(said(1, 1, lasting(7000, 50)))), text(0, 17, frame(said(2, 16, lasting(7000, 50))))}, none, none},
		{"one too long", []api.Lie{text(0, 16, strings.Repeat("x", 4097)), text(0, 17, strings.Repeat("x", 4096))}, none, none},
	} {
		w := begun(t, fabric(1, 0), 3, []int{0, 1})
		goes(t, w, api.Step{Reads: []api.Read{reads(0, 5000)}, Lies: x.lies})
		goes(t, w, api.Step{})
		for i, at := range []int{x.one, x.next, none} {
			s := w.Front(16 + i).S
			if s.Good != (at != none) || s.Good && s.Span != (api.Span{Lo: at - 50 + 989, Hi: at + 50 + 1001}) {
				t.Errorf("%s: the node %d holds %+v", x.what, 16+i, s)
			}
		}
	}
}

// TestNodesNeverLie is P24.1 of lies along a node's way: it sends its own frame.
func TestNodesNeverLie(t *testing.T) {
	w := begun(t, fabric(1, 0), 2, []int{0}, way(0, 1))
	s := api.Step{Reads: []api.Read{reads(0, 5000)}, Lies: []api.Lie{{Way: way(16, 17), Frame: "x"}, {Way: way(17, 16), Frame: "x"}}}
	for range 4 {
		goes(t, w, s)
	}
	wantHops(t, "behind a node along whose way a lie is named", w, 17, 1)
}

// TestLongLie is P24.1 of a lie that no lane takes: nothing is under way.
func TestLongLie(t *testing.T) {
	w := begun(t, fabric(1, 0), 2, []int{0, 1})
	goes(t, w, api.Step{Lies: []api.Lie{{Way: way(0, 16), Frame: strings.Repeat("x", 4097)}, {Way: way(0, 17), Frame: strings.Repeat("x", 4096)}}})
	want(t, "what is under way", waitings(w), once(way(0, 17)))
}

// TestBegin is P24.1's Begin: a unit is as a new one, nothing waits for it, and what it sent is under way still.
func TestBegin(t *testing.T) {
	p := fabric(2, 0)
	w := begun(t, p, 2, []int{0}, way(0, 1))
	for range 3 {
		goes(t, w, api.Step{Reads: []api.Read{reads(0, 5000)}})
	}
	r := some(241)
	for range 300 {
		s := r.state()
		for _, who := range []int{0, 1, 16, 17} {
			w.Begin(who, s)
			want(t, "what it holds", w.Front(who), &health.Front{P: p, S: health.Sane(p, s)})
		}
	}
	goes(t, w, api.Step{})
	w.Begin(16, api.State{})
	want(t, "what waits", waitings(w), once(way(0, 1), way(1, 0), way(16, 17)))
	was := w.Front(17).S
	for _, who := range []int{-1, 2, 15, 18, 47, 48, math.MinInt, math.MaxInt} {
		w.Begin(who, api.State{Time: 7})
		if w.Front(who) != nil {
			t.Errorf("there is a unit of the number %d", who)
		}
	}
	want(t, "what another one holds", w.Front(17).S, was)
}

// TestBeginForgets is P24.1's Begin of a node: it knows nobody any more.
func TestBeginForgets(t *testing.T) {
	w := begun(t, fabric(1, 0), 1, nil)
	hear := func() {
		put(t, w, 16, said(2, 17, lasting(4000, 50)))
		goes(t, w, api.Step{})
	}
	hear()
	hear()
	wantHops(t, "behind two frames", w, 16, 1)
	w.Begin(16, w.Front(16).S)
	hear()
	wantHops(t, "behind one more", w, 16, 3)
	hear()
	wantHops(t, "behind two more", w, 16, 1)
}

// TestTime is P24.1's Time and Set: each beat has Beat ticks, and nothing goes beyond api.Most.
func TestTime(t *testing.T) {
	w := begun(t, example(), 0, nil)
	for _, x := range []struct{ set, is, later int }{
		{0, 0, 1000}, {-500, -500, 500}, {most - 1000, most - 1000, most}, {most - 999, most - 999, most}, {most, most, most}, {most + 1, most, most},
		{math.MaxInt, most, most}, {-most, -most, -most + 1000}, {-most - 1, -most, -most + 1000}, {math.MinInt, -most, -most + 1000},
	} {
		w.Set(x.set)
		is := w.Time()
		goes(t, w, api.Step{Ticks: []api.Tick{{Who: 0, Ticks: 5}}, Off: []int{1}})
		if is != x.is || w.Time() != x.later {
			t.Errorf("set to %d: it is %d, and a beat later %d", x.set, is, w.Time())
		}
	}
}

// TestFront is P24.1's Front: it is what the unit holds, and what its users ask is seen by it.
func TestFront(t *testing.T) {
	w := begun(t, fabric(1, 0), 1, []int{0})
	for _, who := range []int{0, 16} {
		f := w.Front(who)
		for range 3 {
			was := f.S.Stamp
			one, _ := f.Stamp()
			two, _ := w.Front(who).Stamp()
			goes(t, w, api.Step{Reads: []api.Read{reads(0, 5000)}})
			if list := []api.Stamp{was, one, two, f.S.Stamp}; !slices.IsSortedFunc(list, func(a, b api.Stamp) int {
				return slices.Compare([]int{a.Time, a.Num}, []int{b.Time, b.Num})
			}) || one == two || f != w.Front(who) {
				t.Errorf("the unit %d has the stamps %v, one behind the other", who, list)
			}
		}
		if s, e := f.Interval(); who == 0 && (e != api.OK || s != lasting(5000, 50)) {
			t.Errorf("it tells %v, %d", s, e)
		}
	}
}

// TestNil is P24.1 of a nil world: it has nothing.
func TestNil(t *testing.T) {
	var w *world.World
	w.Begin(0, api.State{})
	w.Set(5)
	if w.Put(way(0, 0), "") != api.ErrNil || w.Put(way(-1, 99), strings.Repeat("x", 5000)) != api.ErrNil || w.Beat(api.Step{}) != api.ErrNil || w.Time() != 0 || w.Front(0) != nil || w.Front(16) != nil {
		t.Error("a nil world answers something")
	}
}

// calls has things of all kinds befall a world and its model; both answer the same.
func (r someone) calls(t *testing.T, w *world.World, m *model, calm bool) {
	t.Helper()
	for range r.Intn(3) {
		l := r.way(m.p, m.nodes)
		if r.seldom() {
			l.From = r.Intn(48)
		}
		s := r.frame(l.From, m.now)
		want(t, "what Put answers", w.Put(l, s), m.put(l, s))
	}
	if r.seldom() && r.yes() {
		l := r.way(m.p, m.nodes)
		for range 60 + r.Intn(10) {
			s := r.frame(l.From, m.now)
			want(t, "what Put answers", w.Put(l, s), m.put(l, s))
		}
	}
	if r.seldom() && (!calm || r.seldom()) {
		who, s := r.who(m.p, m.nodes), r.state()
		w.Begin(who, s)
		m.begin(who, s)
	}
	if r.seldom() && r.seldom() {
		now := r.num()
		w.Set(now)
		m.now = max(-most, min(most, now))
	}
	if who := r.who(m.p, m.nodes); m.front(who) != nil {
		one, _ := w.Front(who).Stamp()
		two, _ := m.front(who).Stamp()
		want(t, "a stamp", one, two)
	}
	s := r.step(m.p, m.nodes, m.now+m.p.Beat, calm)
	want(t, "what Beat answers", w.Beat(s), api.OK)
	m.beat(s)
}

// TestModel is P24.1 of calls of all kinds, in every order: worlds hold what a model of them does.
func TestModel(t *testing.T) {
	r := some(242)
	var synced, far, lost int
	for i := range 400 {
		p, nodes := r.params(), r.Intn(7)
		if i%40 == 0 {
			nodes = 32
		}
		core, links := r.core(nodes), r.links(nodes, r.Intn(2*nodes+2))
		w, m := begun(t, p, nodes, core, links...), newModel(p, nodes, core, links)
		for range 12 {
			r.calls(t, w, m, i%2 == 0)
			wantModel(t, w, m)
			for who := range 48 {
				switch f := w.Front(who); {
				case f == nil:
				case f.Health() != api.Boot && f.S.Hops > 0:
					far++
				case f.Health() != api.Boot:
					synced++
				default:
					lost++
				}
			}
		}
		wantWaits(t, w, m)
	}
	if synced < 3000 || far < 300 || lost < 3000 {
		t.Errorf("%d were synced, %d of them further from the core, and %d were lost", synced, far, lost)
	}
}

// TestAnotherTime is P24.2: worlds of other true times, to which the same befalls, hold the same.
func TestAnotherTime(t *testing.T) {
	r := some(243)
	for range 200 {
		p, nodes := r.params(), r.Intn(7)
		core, links := r.core(nodes), r.links(nodes, 2*nodes)
		one, two := begun(t, p, nodes, core, links...), begun(t, p, nodes, core, links...)
		two.Set(r.num())
		for i := range 12 {
			s := r.step(p, nodes, (i+5)*p.Beat, r.yes())
			goes(t, one, s)
			goes(t, two, s)
			if r.seldom() {
				two.Set(r.num())
			}
			for who := range 48 {
				want(t, "what both hold", one.Front(who), two.Front(who))
			}
		}
		for from := range 48 {
			if one.Front(from) != nil {
				want(t, "what waits in both", waiting(one, way(from, from)), waiting(two, way(from, from)))
			}
		}
	}
}

// loners are units by themselves, by their numbers.
type loners struct {
	gates map[int]*gate.Gate
	nodes map[int]*node.Node
}

// beat lets all of them hear nothing, but for those that are off.
func (l loners) beat(p api.Params, s api.Step) {
	m := &model{p: p}
	for who, g := range l.gates {
		if !slices.Contains(s.Off, who) {
			g.Beat(m.input(who, s))
		}
	}
	for who, n := range l.nodes {
		if !slices.Contains(s.Off, who) {
			n.Beat(m.input(who, s))
		}
	}
}

// wantLoners holds units of a world to what they are by themselves.
func wantLoners(t *testing.T, w *world.World, l loners) {
	t.Helper()
	for who, g := range l.gates {
		want(t, "a gateway alone", w.Front(who), &g.Front)
	}
	for who, n := range l.nodes {
		want(t, "a node alone", w.Front(who), &n.Front)
	}
}

// TestAlone is P24.3: where there are no ways, or all of them lose what is sent, each unit is as if it were alone.
func TestAlone(t *testing.T) {
	r := some(244)
	for i := range 200 {
		p, nodes := r.params(), r.Intn(7)
		var core []int
		var links, lost []api.Way
		if i%2 == 0 {
			p.N, p.F = 1, 0
		} else {
			core, links = r.core(nodes), r.links(nodes, 2*nodes)
			for l := range newModel(p, nodes, core, links).ways {
				lost = append(lost, l)
			}
		}
		w, l := begun(t, p, nodes, core, links...), loners{map[int]*gate.Gate{}, map[int]*node.Node{}}
		for who := range 48 {
			s := r.state()
			w.Begin(who, s)
			switch {
			case w.Front(who) == nil:
			case who < 16:
				l.gates[who] = gate.New(p, who, s)
			default:
				l.nodes[who] = node.New(p, who, s)
			}
		}
		for i := range 8 {
			s := r.step(p, nodes, (i+5)*p.Beat, false)
			s.Lost, s.Join = lost, nil
			goes(t, w, s)
			l.beat(p, s)
			wantLoners(t, w, l)
		}
	}
}

// TestCutOff is P24.3 of nodes all of whose links are cut: they are as if they were alone, but for what was under way.
func TestCutOff(t *testing.T) {
	w := begun(t, fabric(1, 0), 3, []int{0}, way(0, 1), way(1, 2))
	for range 6 {
		goes(t, w, api.Step{Reads: []api.Read{reads(0, 5000)}})
	}
	goes(t, w, api.Step{Cut: []api.Way{way(0, 1), way(2, 1)}})
	s := w.Front(17).S
	alone := node.New(fabric(1, 0), 17, s)
	for range 5 {
		goes(t, w, api.Step{})
		alone.Beat(api.Input{Ticks: 1000})
		want(t, "who is cut off", w.Front(17), &alone.Front)
	}
}
