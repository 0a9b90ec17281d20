package node_test

import (
	"math"
	"slices"
	"testing"

	"clepsydra/api"
	"clepsydra/health"
	"clepsydra/node"
)

// TestExamples are the chapter's.
func TestExamples(t *testing.T) {
	n := node.New(example(), 20, api.State{})
	m := n.Beat(api.Input{Ticks: 1000})
	if _, e := n.Now(); m.Hops != 5 || m.Good || n.Health() != api.Boot || e != api.ErrSync {
		t.Errorf("lost: it tells %+v, its health %d, its clock %d", m, n.Health(), e)
	}
	near := []api.Heard{from(21, lasting(4000, 50))}
	n.Beat(api.Input{Ticks: 1000, Heard: near})
	if n.S.Hops != 5 || n.Health() != api.Boot {
		t.Errorf("behind one message it holds %+v", n.S)
	}
	m = n.Beat(api.Input{Ticks: 1000, Heard: near})
	if m.Hops != 2 || !m.Good || n.Health() != api.Synced {
		t.Errorf("behind two it tells %+v, its health %d", m, n.Health())
	}
}

// TestNew is P23.1's New: a node of that number without neighbours, and of what Sane makes of the state.
func TestNew(t *testing.T) {
	s := api.State{Span: lasting(5000, 7), Time: 5001, Set: true, Held: 7, Hops: 9, Good: true, Table: badTables()[1], Stamp: stamp(5, -1), Life: -1}
	n := node.New(example(), 20, s)
	want(t, "what it holds", n.S, api.State{Span: lasting(5000, 7), Time: 5001, Set: true, Held: 7, Hops: 5, Good: true, Stamp: stamp(5001, 0)})
	if n.P != example() || n.Me != 20 || n.Health() != api.Boot || len(n.Near()) != 0 {
		t.Errorf("it is %+v, its health %d, its neighbours %v", n, n.Health(), n.Near())
	}
	r := some(231)
	for range 20000 {
		p, me, s := r.params(), r.num(), r.state()
		n := node.New(p, me, s)
		want(t, "what it holds", n.S, health.Sane(p, s))
		if n.P != p || n.Me != me || len(n.Near()) != 0 {
			t.Fatalf("it is %+v, of %+v and %d", n, p, me)
		}
	}
}

// TestUsers is P23.1 of the calls that a node's users have: they are its Front's.
func TestUsers(t *testing.T) {
	n := node.New(example(), 20, api.State{Span: lasting(5000, 7), Time: 5001, Set: true, Held: 7, Hops: 4, Good: true, Table: table()})
	now, _ := n.Now()
	in, _ := n.Interval()
	utc, _ := n.UTC()
	pulse, _ := n.Pulse()
	last, _ := n.Stamp()
	if now != 5001 || in != lasting(5000, 7) || utc != (api.Label{Year: 1970, Month: 1, Day: 1, Second: 5}) || pulse != 1 || last != stamp(5001, 0) || n.Health() != api.Holdover {
		t.Errorf("it tells %d, %v, %v, %d, %v, and its health is %d", now, in, utc, pulse, last, n.Health())
	}
	n.Listen(stamp(5005, 3))
	if n.S.Stamp != stamp(5005, 4) {
		t.Errorf("its stamp is %v", n.S.Stamp)
	}
}

// TestNil is P23.1 of a nil node: it has no neighbours, and tells the zero message.
func TestNil(t *testing.T) {
	var n *node.Node
	want(t, "what it tells", n.Beat(api.Input{Ticks: 1000, Heard: []api.Heard{from(0, lasting(5, 5))}}), api.Msg{})
	if near := n.Near(); len(near) != 0 {
		t.Errorf("its neighbours: %v", near)
	}
}

// heardBy is a node of that number behind beats in which it heard these.
func heardBy(p api.Params, me int, beats ...[]api.Heard) *node.Node {
	n := node.New(p, me, api.State{Span: lasting(4000, 9), Time: 4000, Set: true, Good: true})
	for _, list := range beats {
		n.Beat(api.Input{Ticks: 1000, Heard: list})
	}
	return n
}

// those are messages of the kind that the numbers have, as wide as they stand in the list.
func those(list ...int) []api.Heard {
	var out []api.Heard
	for i, who := range list {
		out = append(out, from(who, lasting(4000, 100+i)))
	}
	return out
}

// kind changes a message's kind.
func kind(k int, h api.Heard) api.Heard {
	h.Msg.Kind = k
	return h
}

// TestKnown is P23.1's Beat: whose messages count, by the steps that they lead to (5 of a node that is lost), and who is a neighbour all the same.
func TestKnown(t *testing.T) {
	const lost = 5
	gate, mate := from(0, lasting(4000, 50)), from(21, lasting(4000, 50))
	steps := func(n int) api.Heard { return but(mate, func(h *api.Heard) { h.Msg.Hops = n }) }
	for _, x := range []struct {
		what  string
		beats [][]api.Heard
		hops  int
		near  []int
	}{
		{"nothing", [][]api.Heard{nil}, lost, nil},
		{"a gateway, at once", [][]api.Heard{those(0)}, 0, []int{0}},
		{"the last gateway", [][]api.Heard{those(3)}, 0, []int{3}},
		{"a gateway's number above N", [][]api.Heard{those(4), those(4), those(4)}, lost, []int{4}},
		{"the greatest one", [][]api.Heard{those(15), those(15)}, lost, []int{15}},
		{"a gateway's number, of a node's kind", [][]api.Heard{{kind(2, gate)}, {kind(2, gate)}, {kind(2, gate)}}, lost, []int{0}},
		{"one above N, of that kind", [][]api.Heard{{kind(2, from(4, lasting(4000, 50)))}, {kind(2, from(4, lasting(4000, 50)))}}, lost, []int{4}},
		{"the greatest one, of that kind", [][]api.Heard{{kind(2, from(15, lasting(4000, 50)))}, {kind(2, from(15, lasting(4000, 50)))}}, lost, []int{15}},
		{"of that kind, and then of its own", [][]api.Heard{{kind(2, gate), gate}}, 0, []int{0}},
		{"of no kind", [][]api.Heard{{kind(0, gate), kind(3, gate), kind(-1, gate)}, {kind(0, mate), kind(3, mate)}, {kind(0, mate), kind(3, mate)}}, lost, []int{0, 21}},
		{"a node, at once", [][]api.Heard{those(21)}, lost, []int{21}},
		{"a node in two beats", [][]api.Heard{those(21), those(21)}, 2, []int{21}},
		{"in three", [][]api.Heard{those(21), those(21), those(21)}, 2, []int{21}},
		{"twice in one beat", [][]api.Heard{those(21, 21)}, lost, []int{21}},
		{"with a beat between", [][]api.Heard{those(21), nil, those(21)}, lost, []int{21}},
		{"with a beat between, and once more", [][]api.Heard{those(21), nil, those(21), those(21)}, 2, []int{21}},
		{"behind many, with a beat between", [][]api.Heard{those(21), those(21), those(21), nil, those(21)}, lost, []int{21}},
		{"twice with a beat between", [][]api.Heard{those(21), nil, those(21, 21)}, lost, []int{21}},
		{"a node of a gateway's kind", [][]api.Heard{{kind(1, mate)}, {kind(1, mate)}, {kind(1, mate)}}, lost, []int{21}},
		{"which isn't known, but heard", [][]api.Heard{{kind(1, mate)}, {mate}}, 2, []int{21}},
		{"and of its own in one beat", [][]api.Heard{{mate}, {kind(1, mate), mate}}, 2, []int{21}},
		{"the first node", [][]api.Heard{those(16), those(16)}, 2, []int{16}},
		{"the last node", [][]api.Heard{those(47), those(47)}, 2, []int{47}},
		{"its own number", [][]api.Heard{those(20), those(20), those(20)}, lost, nil},
		{"no such number", [][]api.Heard{those(-1, 48, math.MinInt, math.MaxInt), those(-1, 48, math.MinInt, math.MaxInt)}, lost, nil},
		{"the first of a number", [][]api.Heard{{mate}, {steps(3), steps(0)}}, 4, []int{21}},
		{"whatever it says", [][]api.Heard{{mate}, {steps(-1), steps(0)}}, lost, []int{21}},
		{"and if it isn't Good", [][]api.Heard{{mate}, {but(mate, func(h *api.Heard) { h.Msg.Good = false }), mate}}, lost, []int{21}},
		{"another number's is none of it", [][]api.Heard{{mate}, {from(22, lasting(4000, 5)), mate, from(22, lasting(4000, 5))}}, 2, []int{21, 22}},
		{"a gateway that isn't Good first", [][]api.Heard{{but(gate, func(h *api.Heard) { h.Msg.Good = false }), gate}}, lost, []int{0}},
	} {
		n := heardBy(trusting(), 20, x.beats...)
		want(t, x.what+": the neighbours", n.Near(), plain(x.near))
		if n.S.Hops != x.hops || n.S.Good != (x.hops != lost) {
			t.Errorf("%s: it holds %+v, not of %d steps", x.what, n.S, x.hops)
		}
	}
}

// TestFirstOfAGateway is P23.1's Beat: of a gateway's messages the first one counts, whatever comes behind it.
func TestFirstOfAGateway(t *testing.T) {
	n := heardBy(trusting(), 20, []api.Heard{from(2, lasting(4000, 50)), from(2, lasting(4000, 5)), from(2, lasting(9000, 5))})
	want(t, "its span", n.S.Span, api.Span{Lo: 4944, Hi: 5056})
}

// TestOwnNumber is P23.1's Beat of numbers that a node may have: what is from its own isn't heard, be it a gateway's.
func TestOwnNumber(t *testing.T) {
	for _, x := range []struct {
		me, hops int
		near     []int
	}{
		{20, 0, []int{0, 21}}, {0, 2, []int{21}}, {21, 0, []int{0}}, {-1, 0, []int{0, 21}}, {math.MaxInt, 0, []int{0, 21}},
	} {
		n := heardBy(trusting(), x.me, those(0, 21), those(0, 21))
		m := n.Beat(api.Input{Ticks: 1000, Heard: those(0, 21)})
		want(t, "the neighbours", n.Near(), plain(x.near))
		if m.From != x.me || m.Kind != api.FromNode || m.Hops != x.hops {
			t.Errorf("the node %d tells %+v", x.me, m)
		}
	}
}

// TestNear is P23.1's Near: who is heard is a neighbour, until he is quiet for more than two beats; there are 16 at most.
func TestNear(t *testing.T) {
	many := those(30, 21, 22, 23, 24, 25, 26, 27, 28, 29, 31, 32, 33, 34, 35)
	for _, x := range []struct {
		what  string
		beats [][]api.Heard
		near  []int
	}{
		{"by rising numbers", [][]api.Heard{those(33, 2, 21, 0)}, []int{0, 2, 21, 33}},
		{"quiet for a beat", [][]api.Heard{those(21, 0), nil}, []int{0, 21}},
		{"for two", [][]api.Heard{those(21, 0), nil, nil}, []int{0, 21}},
		{"for three", [][]api.Heard{those(21, 0), nil, nil, nil}, nil},
		{"one of two", [][]api.Heard{those(21, 0), those(0), nil, nil}, []int{0}},
		{"heard again in time", [][]api.Heard{those(21), nil, nil, those(21), nil, nil}, []int{21}},
		{"and gone then", [][]api.Heard{those(21), nil, nil, those(21), nil, nil, nil}, nil},
		{"as many as there may be", [][]api.Heard{slices.Concat(many, those(2))}, []int{2, 21, 22, 23, 24, 25, 26, 27, 28, 29, 30, 31, 32, 33, 34, 35}},
		{"one more", [][]api.Heard{slices.Concat(many, those(2, 36, 3))}, []int{2, 21, 22, 23, 24, 25, 26, 27, 28, 29, 30, 31, 32, 33, 34, 35}},
		{"there is no room ahead of the beat's end", [][]api.Heard{slices.Concat(many, those(2)), nil, nil, those(36)}, nil},
		{"but behind it", [][]api.Heard{slices.Concat(many, those(2)), nil, nil, nil, those(36)}, []int{36}},
	} {
		n := heardBy(example(), 20, x.beats...)
		want(t, x.what, n.Near(), plain(x.near))
	}
}

// TestNoRoom is P23.1's Beat: what is from one for whom there is no room in the table isn't known.
func TestNoRoom(t *testing.T) {
	many := those(30, 21, 22, 23, 24, 25, 26, 27, 28, 29, 31, 32, 33, 34, 35, 36)
	for i := range many {
		many[i].Msg.Good = false
	}
	n := heardBy(trusting(), 20, slices.Concat(many, those(0)))
	if n.S.Hops != 5 {
		t.Errorf("of a gateway that has no room it holds %+v", n.S)
	}
	n = heardBy(trusting(), 20, slices.Concat(many, those(37)), slices.Concat(many, those(37)))
	if n.S.Hops != 5 {
		t.Errorf("of a node that has no room it holds %+v", n.S)
	}
	n = heardBy(trusting(), 20, slices.Concat(those(0), many))
	if n.S.Hops != 0 || slices.Contains(n.Near(), 36) {
		t.Errorf("of a gateway that came first it holds %+v", n.S)
	}
}

// was is what nodes hold ahead of the beats below.
func was() api.State {
	return api.State{Span: lasting(4000, 9), Time: 4000, Set: true, Held: 2, Hops: 1, Good: true, Table: table(), Stamp: stamp(4000, 5), Life: 7}
}

// TestCore is P23.1's Beat, worked out by hand: which gateways count, and which span, and how many beats, they lead to.
func TestCore(t *testing.T) {
	// What told [a, b] 905 ticks ago is [a + 994, b + 1006] now.
	tell := func(who, at, held int) api.Heard {
		h := from(who, lasting(at, 50))
		h.Msg.Held, h.Msg.Table = held, table()
		return h
	}
	bad := func(who int) api.Heard {
		return but(tell(who, 4000, 0), func(h *api.Heard) { h.Msg.Good = false })
	}
	none := func(who int) api.Heard {
		return but(tell(who, 4000, 0), func(h *api.Heard) { h.Msg.Span = api.Span{Lo: 4001, Hi: 4000} })
	}
	for _, x := range []struct {
		what  string
		heard []api.Heard
		core  bool
		span  api.Span
		held  int
	}{
		{"all agree", []api.Heard{tell(0, 4000, 0), tell(1, 4000, 0), tell(2, 4000, 0), tell(3, 4000, 0)}, true, api.Span{Lo: 4944, Hi: 5056}, 1},
		{"three tell", []api.Heard{tell(2, 4010, 4), tell(0, 4000, 3), tell(1, 3990, 5)}, true, api.Span{Lo: 4944, Hi: 5056}, 5},
		{"of four", []api.Heard{tell(3, 4020, 9), tell(2, 4010, 4), tell(0, 4000, 3), tell(1, 3990, 0)}, true, api.Span{Lo: 4954, Hi: 5056}, 4},
		{"one that lies", []api.Heard{tell(3, 90000, -9), tell(2, 4010, 4), tell(0, 4000, 3), tell(1, 3990, 2)}, true, api.Span{Lo: 4954, Hi: 5056}, 3},
		{"one that lies below", []api.Heard{tell(3, -90000, 1<<40), tell(2, 4010, 4), tell(0, 4000, 3), tell(1, 3990, 2)}, true, api.Span{Lo: 4944, Hi: 5046}, 4},
		{"two are too few", []api.Heard{tell(2, 4010, 4), tell(0, 4000, 3)}, false, api.Span{}, 0},
		{"one twice", []api.Heard{tell(2, 4010, 4), tell(0, 4000, 3), tell(2, 4010, 4)}, false, api.Span{}, 0},
		{"one that isn't Good", []api.Heard{tell(2, 4010, 4), tell(0, 4000, 3), bad(1)}, false, api.Span{}, 0},
		{"beside three that are", []api.Heard{tell(2, 4000, 4), tell(0, 4000, 3), bad(1), tell(3, 4000, 6)}, true, api.Span{Lo: 4944, Hi: 5056}, 5},
		{"one whose span is empty", []api.Heard{tell(2, 4010, 4), tell(0, 4000, 3), none(1)}, false, api.Span{}, 0},
		{"empty, beside three that aren't", []api.Heard{tell(2, 4000, 4), tell(0, 4000, 3), none(1), tell(3, 4000, 6)}, true, api.Span{Lo: 4944, Hi: 5056}, 5},
		{"a number above N", []api.Heard{tell(2, 4010, 4), tell(0, 4000, 3), tell(4, 4000, 0)}, false, api.Span{}, 0},
		{"three that part", []api.Heard{tell(0, 4000, 7), tell(1, 90000, 8), tell(2, -90000, 9)}, true, api.Span{Lo: 4944, Hi: 5056}, 9},
		{"two and two that part", []api.Heard{tell(0, 4000, 0), tell(1, 4000, 0), tell(2, 4200, 0), tell(3, 4200, 0)}, false, api.Span{}, 0},
		{"as many beats as there may be", []api.Heard{tell(0, 4000, 1<<30), tell(1, 4000, 1<<30), tell(2, 4000, 1<<30)}, true, api.Span{Lo: 4944, Hi: 5056}, 1 << 30},
		{"fewer than none", []api.Heard{tell(0, 4000, -5), tell(1, 4000, -5), tell(2, 4000, -5)}, true, api.Span{Lo: 4944, Hi: 5056}, 0},
	} {
		for _, good := range []bool{true, false} {
			s := was()
			s.Good = good
			n := node.New(example(), 20, s)
			m := n.Beat(api.Input{Ticks: 1001, Heard: x.heard})
			expect := api.State{Span: x.span, Held: x.held, Good: true, Set: true, Table: table(), Life: 7}
			if !x.core {
				expect.Span, expect.Held, expect.Hops, expect.Good = api.Span{Lo: 4991, Hi: 5011}, 3, 5, false
			}
			expect.Time = n.S.Time
			expect.Stamp = stamp(n.S.Time, 1)
			want(t, x.what, n.S, expect)
			if m.Ref || m.Seen != (api.Span{}) || m.Span != expect.Span || m.Held != expect.Held || m.Hops != expect.Hops || m.Good != expect.Good || m.Stamp != expect.Stamp {
				t.Errorf("%s: it tells %+v", x.what, m)
			}
		}
	}
}

// TestCoreAges is P23.1's Beat: each gateway's span goes by its own age, and what it saw, its steps and its pulse have no say.
func TestCoreAges(t *testing.T) {
	list := those(3, 0, 2)
	for i, age := range []int{700, 760, 790} {
		list[i].Msg.Span, list[i].Age = lasting(4000, 50), age
		list[i].Msg.Ref, list[i].Msg.Seen, list[i].Msg.Hops, list[i].Msg.Pulse = true, lasting(9000, 5), 3-i, 99
	}
	n := heardBy(example(), 20, list)
	want(t, "its span", n.S.Span, api.Span{Lo: 4799, Hi: 4911})
	if n.S.Hops != 0 {
		t.Errorf("it holds %+v", n.S)
	}
}

// TestCoreTable is P23.1's Beat of tables that gateways tell: the one that more than F tell, of those that are taken; else its own.
func TestCoreTable(t *testing.T) {
	tell := func(who int, list []api.Leap) api.Heard {
		return but(from(who, lasting(4000, 50)), func(h *api.Heard) { h.Msg.Table = list })
	}
	bad := func(h api.Heard) api.Heard { return but(h, func(h *api.Heard) { h.Msg.Good = false }) }
	a, b, c := full(), other(), full()[:1]
	for _, x := range []struct {
		what  string
		heard []api.Heard
		want  []api.Leap
	}{
		{"all tell it", []api.Heard{tell(0, a), tell(1, a), tell(2, a), tell(3, a)}, a},
		{"two of three", []api.Heard{tell(0, a), tell(1, b), tell(2, a)}, a},
		{"two that have none", []api.Heard{tell(0, nil), tell(1, b), tell(2, nil)}, nil},
		{"each its own", []api.Heard{tell(0, a), tell(1, b), tell(2, c)}, table()},
		{"one alone beside what isn't good", []api.Heard{tell(0, a), tell(1, badTables()[1]), tell(2, badTables()[1])}, table()},
		{"its own has no vote", []api.Heard{tell(0, a), tell(1, b), tell(2, table())}, table()},
		{"two and two, by number", []api.Heard{tell(3, b), tell(2, b), tell(1, a), tell(0, a)}, a},
		{"one that isn't Good has no vote", []api.Heard{tell(0, a), tell(1, b), tell(2, c), bad(tell(3, a))}, table()},
		{"one that nobody knows has none", []api.Heard{tell(0, a), tell(1, b), tell(2, c), tell(4, a), tell(0, b), tell(21, a)}, table()},
	} {
		n := node.New(example(), 20, was())
		m := n.Beat(api.Input{Ticks: 1000, Heard: x.heard, Given: true, Table: c})
		if n.S.Hops != 0 || !slices.Equal(n.S.Table, x.want) || !slices.Equal(m.Table, x.want) {
			t.Errorf("%s: it has %v, and tells %v", x.what, n.S.Table, m.Table)
		}
	}
}

// TestFollows is P23.1's Beat, worked out by hand: whom a node follows that doesn't hear the core, and where to.
func TestFollows(t *testing.T) {
	tell := func(who, hops, held int) api.Heard {
		h := from(who, lasting(4000, who))
		h.Msg.Hops, h.Msg.Held = hops, held
		return h
	}
	none := func(h api.Heard) api.Heard {
		return but(h, func(h *api.Heard) { h.Msg.Span = api.Span{Lo: 4001, Hi: 4000} })
	}
	bad := func(h api.Heard) api.Heard { return but(h, func(h *api.Heard) { h.Msg.Good = false }) }
	for _, x := range []struct {
		what  string
		heard []api.Heard
		whom  int
		hops  int
		held  int
	}{
		{"one", []api.Heard{tell(25, 1, 3)}, 25, 2, 4},
		{"one that hears the core", []api.Heard{tell(25, 0, 0)}, 25, 1, 1},
		{"one as far as may be", []api.Heard{tell(25, 3, 0)}, 25, 4, 1},
		{"one that is too far", []api.Heard{tell(25, 4, 0)}, 0, 0, 0},
		{"one that is lost", []api.Heard{tell(25, 5, 0)}, 0, 0, 0},
		{"one with steps that can't be", []api.Heard{tell(25, -1, 0)}, 0, 0, 0},
		{"one that isn't Good", []api.Heard{bad(tell(25, 1, 0))}, 0, 0, 0},
		{"one whose span is empty", []api.Heard{none(tell(25, 1, 0))}, 0, 0, 0},
		{"the least steps", []api.Heard{tell(24, 2, 0), tell(25, 1, 9), tell(23, 3, 0)}, 25, 2, 10},
		{"the least beats", []api.Heard{tell(24, 1, 6), tell(25, 1, 5), tell(23, 1, 7)}, 25, 2, 6},
		{"the least number", []api.Heard{tell(27, 1, 5), tell(25, 1, 5), tell(26, 1, 5)}, 25, 2, 6},
		{"the next best", []api.Heard{none(tell(22, 0, 0)), bad(tell(23, 0, 0)), tell(24, -1, 0), tell(25, 2, 1)}, 25, 3, 2},
		{"as many beats as there may be", []api.Heard{tell(25, 1, 1<<30)}, 25, 2, 1 << 30},
		{"fewer than none", []api.Heard{tell(25, 1, math.MinInt)}, 25, 2, 0},
		{"two gateways, who are too few", []api.Heard{from(0, lasting(4000, 5)), from(1, lasting(4000, 5)), tell(25, 1, 3)}, 25, 2, 4},
		{"two and two that part", []api.Heard{from(0, lasting(4000, 5)), from(1, lasting(4000, 5)), from(2, lasting(9000, 5)), from(3, lasting(9000, 5)), tell(25, 1, 3)}, 25, 2, 4},
		{"three that agree", []api.Heard{tell(25, 0, 3), from(0, lasting(4000, 5)), from(1, lasting(4000, 5)), from(2, lasting(4000, 5))}, 5, 0, 1},
		{"nobody", nil, 0, 0, 0},
	} {
		n := node.New(example(), 20, api.State{})
		n.Beat(api.Input{Ticks: 1000, Heard: x.heard})
		n.S = was()
		n.S.Good = false
		n.Beat(api.Input{Ticks: 1001, Heard: x.heard})
		expect := api.State{Span: api.Span{Lo: 4000 - x.whom + 994, Hi: 4000 + x.whom + 1006}, Held: x.held, Hops: x.hops, Good: true, Set: true, Life: 7, Table: n.S.Table}
		if x.whom == 0 {
			expect.Span, expect.Held, expect.Hops, expect.Good = api.Span{Lo: 4991, Hi: 5011}, 3, 5, false
		}
		expect.Time, expect.Stamp = n.S.Time, n.S.Stamp
		want(t, x.what, n.S, expect)
	}
}

// TestFollowsAges is P23.1's Beat: the span of whom it follows goes by its own age, and has to be one behind its way, too.
func TestFollowsAges(t *testing.T) {
	n := node.New(example(), 20, api.State{})
	list := []api.Heard{from(22, lasting(4000, 50)), from(21, lasting(4000, 50))}
	list[0].Age, list[1].Age = 700, 790
	n.Beat(api.Input{Ticks: 1000, Heard: list})
	n.Beat(api.Input{Ticks: 1000, Heard: list})
	want(t, "its span", n.S.Span, api.Span{Lo: 4829, Hi: 4941})
	// Jitter and Rho below 0 are no fabric's: a way makes spans narrower, and an empty one never one that isn't.
	p := example()
	p.Jitter, p.Rho = -80, -30
	for _, x := range []struct{ wide, hops int }{{70, 2}, {69, 5}, {-1, 5}} {
		list := []api.Heard{from(21, api.Span{Lo: 4000, Hi: 4000 + 2*x.wide})}
		n := heardBy(p, 20, list, list)
		if n.S.Hops != x.hops {
			t.Errorf("of %v it holds %+v", list, n.S)
		}
	}
	p.Jitter, p.Rho = 80, 30
	list = []api.Heard{from(21, api.Span{Lo: 4001, Hi: 4000})}
	if n := heardBy(p, 20, list, list); n.S.Hops != 5 {
		t.Errorf("of an empty span it holds %+v", n.S)
	}
}

// TestFollowsTable is P23.1's Beat: a node has the table of whom it follows, if that is good, and no other neighbour's.
func TestFollowsTable(t *testing.T) {
	tell := func(who int, list []api.Leap) api.Heard {
		return but(from(who, lasting(4000, 50)), func(h *api.Heard) { h.Msg.Table = list })
	}
	for _, x := range []struct {
		what  string
		heard []api.Heard
		want  []api.Leap
	}{
		{"a good one", []api.Heard{tell(25, full())}, full()},
		{"none", []api.Heard{tell(25, nil)}, nil},
		{"another's", []api.Heard{tell(26, full()), tell(25, other()), tell(27, full())}, other()},
		{"a gateway's", []api.Heard{tell(0, full()), tell(1, full()), tell(25, other())}, other()},
		{"no leap table", []api.Heard{tell(25, badTables()[0])}, table()},
		{"one that isn't at a day's end", []api.Heard{tell(25, badTables()[1])}, table()},
		{"one of an entry too many", []api.Heard{tell(25, badTables()[4]), tell(26, full())}, table()},
	} {
		n := node.New(example(), 20, was())
		n.Beat(api.Input{Ticks: 1000, Heard: x.heard})
		want(t, "a lost node's table", n.S.Table, table())
		m := n.Beat(api.Input{Ticks: 1000, Heard: x.heard, Given: true, Table: full()[:2]})
		if n.S.Hops != 2 || !slices.Equal(n.S.Table, x.want) || !slices.Equal(m.Table, x.want) {
			t.Errorf("%s: it has %v, and tells %v", x.what, n.S.Table, m.Table)
		}
	}
}

// TestLost is P23.1's Beat of a node that nobody leads: its span goes on by its own clock, and it isn't Good.
func TestLost(t *testing.T) {
	for _, x := range []struct {
		what  string
		was   api.State
		ticks int
		want  api.State
	}{
		{"it was Synced", was(), 1000, api.State{Span: lasting(5000, 10), Time: 5000, Set: true, Held: 3, Hops: 5, Table: table(), Stamp: stamp(5000, 1), Life: 7}},
		{"it was Boot", api.State{Span: lasting(4000, 9), Time: 3000, Hops: 3}, 1000, api.State{Span: lasting(5000, 10), Time: 5000, Set: true, Held: 1, Hops: 5, Stamp: stamp(5000, 1)}},
		{"other ticks", was(), 700, api.State{Span: lasting(4700, 10), Time: 4700, Set: true, Held: 3, Hops: 5, Table: table(), Stamp: stamp(4700, 1), Life: 7}},
		{"Held stays", api.State{Span: lasting(4000, 9), Held: 1 << 30}, 1000, api.State{Span: lasting(5000, 10), Time: 5000, Set: true, Held: 1 << 30, Hops: 5, Stamp: stamp(5000, 1)}},
		{"the ends stay", api.State{Span: api.Span{Lo: -most, Hi: most}}, 1000, api.State{Span: api.Span{Lo: -most + 999, Hi: most}, Time: 499, Set: true, Held: 1, Hops: 5, Stamp: stamp(499, 1)}},
	} {
		n := node.New(example(), 20, x.was)
		m := n.Beat(api.Input{Ticks: x.ticks, Ref: true, Reading: 5000, Given: true, Table: full()})
		want(t, x.what, n.S, x.want)
		want(t, x.what+": what it tells", m, api.Msg{Kind: api.FromNode, From: 20, Span: x.want.Span, Held: x.want.Held, Hops: 5, Stamp: x.want.Stamp, Table: x.want.Table})
		if n.Health() != api.Boot {
			t.Errorf("%s: its health is %d", x.what, n.Health())
		}
	}
}

// TestSteps is P23.1's Beat of the fabric's D: who is lost is a step beyond it, and who is as many steps from the core leads nobody.
func TestSteps(t *testing.T) {
	for d := range 17 {
		p := trusting()
		p.D = d
		if n := heardBy(p, 20, nil); n.S.Hops != d+1 || n.Health() != api.Boot {
			t.Errorf("D %d: a lost node is %d steps from the core", d, n.S.Hops)
		}
		for hops := range 19 {
			list := []api.Heard{but(from(21, lasting(4000, 50)), func(h *api.Heard) { h.Msg.Hops = hops })}
			if n := heardBy(p, 20, list, list); n.S.Hops != min(hops, d)+1 || n.S.Good != (hops < d) {
				t.Errorf("D %d: behind one of %d steps it holds %+v", d, hops, n.S)
			}
		}
	}
}

// TestSays is P23.1's Beat: what a node tells of its state, with the pulse and the stamp of the time it has then; it never reads.
func TestSays(t *testing.T) {
	n := node.New(example(), 20, api.State{})
	list := those(0, 1, 2)
	for i := range list {
		list[i].Msg.Span, list[i].Msg.Ref, list[i].Msg.Seen, list[i].Msg.Pulse, list[i].Msg.Table = lasting(14020, 50), true, lasting(14020, 5), 99, other()
	}
	m := n.Beat(api.Input{Ticks: 1000, Ref: true, Reading: 15020, Heard: list})
	want(t, "what it tells", m, api.Msg{Kind: api.FromNode, From: 20, Span: api.Span{Lo: 14964, Hi: 15076}, Held: 1, Good: true, Pulse: 3, Stamp: stamp(15020, 1), Table: other()})
}

// TestStamps is P23.1's Beat of stamps: a node listens to known nodes that are Good, in order, and to nobody else.
func TestStamps(t *testing.T) {
	// Behind the beat its clock is at 5000, its span [4944, 5056], and Far 592: 5648 is the last that may be.
	tell := func(who, time, num int) api.Heard {
		return but(from(who, lasting(4000, 50)), func(h *api.Heard) { h.Msg.Stamp = stamp(time, num) })
	}
	lead := []api.Heard{tell(0, 9000, 5), tell(1, 5100, 5), tell(2, 5100, 5)}
	bad := but(tell(21, 5100, 5), func(h *api.Heard) { h.Msg.Good = false })
	odd := but(tell(21, 5100, 5), func(h *api.Heard) { h.Msg.Hops, h.Msg.Span = 99, api.Span{Lo: 5, Hi: 4} })
	for _, x := range []struct {
		what   string
		before []api.Heard
		heard  []api.Heard
		want   api.Stamp
	}{
		{"gateways alone", nil, nil, stamp(5000, 1)},
		{"a node", those(21), []api.Heard{tell(21, 5100, 5)}, stamp(5100, 7)},
		{"one whose stamp is earlier", those(21), []api.Heard{tell(21, 4900, 5)}, stamp(5000, 2)},
		{"the last that may be", those(21), []api.Heard{tell(21, 5648, 5)}, stamp(5648, 7)},
		{"one that is too far ahead", those(21), []api.Heard{tell(21, 5649, 5)}, stamp(5000, 2)},
		{"one that can't be", those(21), []api.Heard{tell(21, 5100, -1)}, stamp(5000, 2)},
		{"one that isn't Good", those(21), []api.Heard{bad}, stamp(5000, 1)},
		{"one that can't be followed", those(21), []api.Heard{odd}, stamp(5100, 7)},
		{"one that isn't known", nil, []api.Heard{tell(21, 5100, 5)}, stamp(5000, 1)},
		{"one that is known once", those(21), []api.Heard{tell(21, 5100, 5), tell(21, 5200, 5)}, stamp(5100, 7)},
		{"one of a gateway's kind", those(21), []api.Heard{kind(1, tell(21, 5100, 5))}, stamp(5000, 1)},
		{"two", those(21, 22), []api.Heard{tell(22, 5100, 5), tell(21, 5200, 5)}, stamp(5200, 7)},
		{"two, the later one first", those(21, 22), []api.Heard{tell(22, 5200, 5), tell(21, 5100, 5)}, stamp(5200, 8)},
		{"as many as there may be", those(21), []api.Heard{tell(21, 5100, 1<<30)}, stamp(5101, 1)},
		{"in order, where numbers end", those(21, 22), []api.Heard{tell(21, 5100, 1<<30), tell(22, 5101, 0)}, stamp(5101, 2)},
		{"in the other order", those(21, 22), []api.Heard{tell(22, 5101, 0), tell(21, 5100, 1<<30)}, stamp(5101, 3)},
	} {
		n := node.New(example(), 20, api.State{})
		n.Beat(api.Input{Ticks: 1000, Heard: x.before})
		n.S = api.State{Span: lasting(4000, 9), Time: 4000, Set: true, Good: true}
		m := n.Beat(api.Input{Ticks: 1000, Heard: slices.Concat(lead, x.heard)})
		if m.Stamp != x.want || n.S.Stamp != x.want || n.S.Time != 5000 {
			t.Errorf("%s: it tells %v, not %v, at %d", x.what, m.Stamp, x.want, n.S.Time)
		}
	}
}

// TestListensBehindStep is P23.1's Beat: which stamps may be goes by the span, and the beats, that the node then has.
func TestListensBehindStep(t *testing.T) {
	// Width of 17 beats and 4 steps is 318: Far is 636, from the span's Hi on.
	last := 1<<40 + 50 + 1006 + 636
	for _, x := range []struct {
		time int
		want api.Stamp
	}{{last, stamp(last, 2)}, {last + 1, stamp(1<<40+1000, 2)}} {
		far := but(from(21, lasting(1<<40, 50)), func(h *api.Heard) { h.Msg.Stamp, h.Msg.Held = stamp(x.time, 0), 16 })
		n := heardBy(example(), 20, []api.Heard{far}, []api.Heard{far})
		if n.S.Hops != 2 || n.S.Held != 17 || n.S.Stamp != x.want {
			t.Errorf("behind a stamp of %d it holds %+v", x.time, n.S)
		}
	}
}

// TestBeatOfAll is P23.1's Beat, beat for beat, of all numbers, states and inputs; each beat's state can be.
func TestBeatOfAll(t *testing.T) {
	r := some(232)
	var cases [4]int
	for range 10000 {
		p, me, s, cast := r.params(), 20, r.state(), r.cast()
		if !r.mostly() {
			me = r.Intn(52) - 2
		}
		n, m := node.New(p, me, s), newModel(p, me, s)
		for range 8 {
			in := r.input(cast)
			got := n.Beat(in)
			said, which := m.end(in)
			cases[which]++
			want(t, "what it tells", got, said)
			want(t, "what it holds", n.S, m.s)
			want(t, "its neighbours", n.Near(), m.numbers())
			want(t, "what can be", n.S, health.Sane(p, n.S))
		}
	}
	if slices.Min(cases[1:]) < 8000 {
		t.Errorf("so often each case was drawn: %v", cases[1:])
	}
}

// TestWrittenState is P23.1 of a node whose state somebody wrote: a beat goes by all the same.
func TestWrittenState(t *testing.T) {
	r := some(233)
	for range 8000 {
		p, me, s, cast := r.params(), r.num(), r.state(), r.cast()
		n, m := node.New(p, 0, api.State{}), newModel(p, 0, api.State{})
		for range 3 {
			in := r.input(cast)
			n.Me, n.S, m.me, m.s = me, s, me, s
			got := n.Beat(in)
			said, _ := m.end(in)
			want(t, "what it tells", got, said)
			want(t, "what it holds", n.S, m.s)
			s = r.state()
		}
	}
}

// TestAnyD is rule 1 of a D that is none: the calls end.
func TestAnyD(t *testing.T) {
	r := some(234)
	for range 4000 {
		p, cast := r.params(), r.cast()
		p.D = r.num()
		n := node.New(p, 20, r.state())
		for range 4 {
			n.Beat(r.input(cast))
			n.Near()
		}
	}
}
