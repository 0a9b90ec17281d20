package gate_test

import (
	"math"
	"slices"
	"testing"

	"clepsydra/api"
	"clepsydra/carry"
	"clepsydra/gate"
	"clepsydra/health"
	"clepsydra/limit"
	"clepsydra/span"
)

// TestExample is the chapter's.
func TestExample(t *testing.T) {
	g := gate.New(alone(), 0, api.State{})
	m := g.Beat(api.Input{Ticks: 1000, Ref: true, Reading: 5000})
	if n, e := g.Now(); m.Span != (api.Span{Lo: 4950, Hi: 5050}) || n != 5000 || e != api.OK || g.Health() != api.Synced {
		t.Errorf("it tells %+v, its clock %d, %d, its health %d", m, n, e, g.Health())
	}
}

// TestNew is P22.1's New: a gateway of that number, and of what Sane makes of the state; it is a Front to its users.
func TestNew(t *testing.T) {
	s := api.State{Span: lasting(5000, 7), Time: 5001, Set: true, Held: 6, Hops: 9, Good: true, Table: badTables()[1], Stamp: stamp(5, -1), Life: -1}
	g := gate.New(example(), 3, s)
	want(t, "what it holds", g.S, api.State{Span: lasting(5000, 7), Time: 5001, Set: true, Held: 6, Hops: 3, Good: true, Stamp: stamp(5001, 0)})
	if g.P != example() || g.Me != 3 || g.Health() != api.Boot {
		t.Errorf("it is %+v, its health %d", g, g.Health())
	}
	r := some(221)
	for range 20000 {
		p, me, s := r.params(), r.num(), r.state()
		g := gate.New(p, me, s)
		want(t, "what it holds", g.S, health.Sane(p, s))
		if g.P != p || g.Me != me {
			t.Fatalf("it is %+v, of %+v and %d", g, p, me)
		}
	}
}

// TestUsers is P22.1 of the calls that a gateway's users have: they are its Front's.
func TestUsers(t *testing.T) {
	g := gate.New(example(), 3, api.State{Span: lasting(5000, 7), Time: 5001, Set: true, Held: 6, Hops: 2, Good: true, Table: table()})
	now, _ := g.Now()
	in, _ := g.Interval()
	utc, _ := g.UTC()
	pulse, _ := g.Pulse()
	last, _ := g.Stamp()
	if now != 5001 || in != lasting(5000, 7) || utc != (api.Label{Year: 1970, Month: 1, Day: 1, Second: 5}) || pulse != 1 || last != stamp(5001, 0) || g.Health() != api.Holdover {
		t.Errorf("it tells %d, %v, %v, %d, %v, and its health is %d", now, in, utc, pulse, last, g.Health())
	}
	g.Listen(stamp(5005, 3))
	if g.S.Stamp != stamp(5005, 4) {
		t.Errorf("its stamp is %v", g.S.Stamp)
	}
}

// TestTold is P22.1's Told: whose messages count, and in what order.
func TestTold(t *testing.T) {
	of := func(n int) api.Params {
		p := example()
		p.N = n
		return p
	}
	for _, x := range []struct {
		what       string
		n, me      int
		from, want []int
	}{
		{"all others", 4, 0, []int{1, 2, 3}, []int{1, 2, 3}},
		{"by rising numbers", 4, 0, []int{3, 1, 2}, []int{1, 2, 3}},
		{"not its own", 4, 2, []int{3, 2, 0, 1}, []int{0, 1, 3}},
		{"no gateway's own", 4, -1, []int{3, 2, 0, 1, -1}, []int{0, 1, 2, 3}},
		{"another one that is none", 4, 20, []int{3, 20, 0}, []int{0, 3}},
		{"no such number", 4, 0, []int{4, -1, 15, 16, 47, math.MinInt, math.MaxInt}, nil},
		{"the first and the last number", 4, 1, []int{3, 0}, []int{0, 3}},
		{"as many as there may be", 16, 7, []int{16, 15, 0, 17, -1}, []int{0, 15}},
		{"more than there may be", 17, 7, []int{16, 15, 0, 17, -1}, []int{0, 15}},
		{"of all numbers", math.MaxInt, 7, []int{16, 15, 0, 17, -1, math.MaxInt - 1}, []int{0, 15}},
		{"one gateway", 1, 0, []int{0, 1}, nil},
		{"one gateway, to a node", 1, 16, []int{0, 1}, []int{0}},
		{"none", 0, 0, []int{0, 1, -1}, nil},
		{"less than none", -5, 0, []int{0, 1, -1, -6}, nil},
		{"far less", math.MinInt, 0, []int{0, 1, -1}, nil},
		{"nothing is heard", 4, 0, nil, nil},
	} {
		var list, expect []api.Heard
		for i, from := range x.from {
			list = append(list, told(from, lasting(from, 5), 900+i))
		}
		for _, from := range x.want {
			expect = append(expect, told(from, lasting(from, 5), 900+slices.Index(x.from, from)))
		}
		want(t, x.what, gate.Told(of(x.n), x.me, list), expect)
	}
}

// TestToldFirst is P22.1's Told: of each number the first message counts that is a gateway's, whatever it says, and whatever comes behind it.
func TestToldFirst(t *testing.T) {
	other := func(kind, from int) api.Heard { return api.Heard{Msg: api.Msg{Kind: kind, From: from}, Age: 7} }
	quiet := api.Heard{Msg: api.Msg{Kind: api.FromGate, From: 2}, Age: 5}
	loud := api.Heard{Msg: api.Msg{Kind: 1, From: 3, Span: lasting(5, 5), Held: -4, Hops: 99, Good: true, Ref: true, Seen: api.Span{Lo: 9, Hi: 1}, Pulse: 8, Stamp: stamp(1, -1), Table: badTables()[0]}, Age: math.MinInt}
	for _, x := range []struct {
		what       string
		list, want []api.Heard
	}{
		{"the same number twice", []api.Heard{told(1, lasting(5, 5), 1), told(1, lasting(6, 6), 2)}, []api.Heard{told(1, lasting(5, 5), 1)}},
		{"between others", []api.Heard{told(3, lasting(5, 5), 1), told(1, lasting(6, 6), 2), told(3, lasting(7, 7), 3), told(1, lasting(8, 8), 4)}, []api.Heard{told(1, lasting(6, 6), 2), told(3, lasting(5, 5), 1)}},
		{"without a reference", []api.Heard{quiet, told(2, lasting(6, 6), 2)}, []api.Heard{quiet}},
		{"whatever it says", []api.Heard{loud, told(3, lasting(6, 6), 2)}, []api.Heard{loud}},
		{"a node's", []api.Heard{other(api.FromNode, 1), told(1, lasting(6, 6), 2)}, []api.Heard{told(1, lasting(6, 6), 2)}},
		{"of no kind", []api.Heard{other(0, 1), other(3, 1), other(-1, 1), other(math.MaxInt, 1), told(1, lasting(6, 6), 2)}, []api.Heard{told(1, lasting(6, 6), 2)}},
		{"none but such", []api.Heard{other(0, 1), other(3, 2), other(api.FromNode, 3)}, nil},
	} {
		want(t, x.what, gate.Told(example(), 0, x.list), x.want)
	}
}

// TestToldOfAll is P22.1's Told, of whatever is heard.
func TestToldOfAll(t *testing.T) {
	r := some(222)
	for range 20000 {
		p, me, list := r.params(), r.Intn(20)-2, r.heard()
		want(t, "Told", gate.Told(p, me, list), modelTold(p, me, list))
	}
}

// TestFused is P22.1's Beat, worked out by hand: whose spans count, and which span all of them are.
func TestFused(t *testing.T) {
	// What saw [a, b] 905 ticks ago is [a + 994, b + 1006] now; the gateway 0 reads 5000.
	seen := func(from, at int) api.Heard { return told(from, lasting(at, 50), 905) }
	mute := func(from, at int) api.Heard {
		h := seen(from, at)
		h.Msg.Ref = false
		return h
	}
	node := seen(1, 4000)
	node.Msg.Kind = api.FromNode
	no := api.Span{}
	for _, x := range []struct {
		what  string
		ref   bool
		heard []api.Heard
		want  api.Span
	}{
		{"all agree", true, []api.Heard{seen(1, 4000), seen(2, 4000), seen(3, 4000)}, api.Span{Lo: 4944, Hi: 5056}},
		{"it reads, and two tell", true, []api.Heard{seen(1, 3990), seen(2, 4010)}, api.Span{Lo: 4950, Hi: 5050}},
		{"it doesn't read", false, []api.Heard{seen(1, 3990), seen(2, 4010), seen(3, 4000)}, api.Span{Lo: 4944, Hi: 5056}},
		{"two are too few", true, []api.Heard{seen(1, 3990)}, no},
		{"and so are two others", false, []api.Heard{seen(1, 3990), seen(2, 4010)}, no},
		{"it reads alone", true, nil, no},
		{"it hears nothing", false, nil, no},
		{"one that lies", true, []api.Heard{seen(1, 3990), seen(2, 90000), seen(3, 4010)}, api.Span{Lo: 4954, Hi: 5050}},
		{"one that lies below", true, []api.Heard{seen(1, 3990), seen(2, -90000), seen(3, 4010)}, api.Span{Lo: 4950, Hi: 5046}},
		{"two that lie", true, []api.Heard{seen(1, 90000), seen(2, -90000)}, api.Span{Lo: 4950, Hi: 5050}},
		{"two that lie alike", true, []api.Heard{seen(1, 90000), seen(2, 90000)}, api.Span{Lo: 90944, Hi: 91056}},
		{"three that part", true, []api.Heard{seen(1, 9000), seen(2, 90000), seen(3, 900000)}, no},
		{"one whose span is none", true, []api.Heard{seen(1, 4000), told(2, api.Span{Lo: 4040, Hi: 3960}, 905)}, api.Span{Lo: 4950, Hi: 5050}},
		{"one without a reference", true, []api.Heard{seen(1, 4000), mute(2, 4000)}, no},
		{"one without, and then with one", true, []api.Heard{seen(1, 4000), mute(2, 4000), seen(2, 4000)}, no},
		{"one twice", true, []api.Heard{seen(1, 4000), seen(1, 4000)}, no},
		{"its own number", true, []api.Heard{seen(1, 4000), seen(0, 4000)}, no},
		{"a number that no gateway has", true, []api.Heard{seen(1, 4000), seen(4, 4000)}, no},
		{"a node's", true, []api.Heard{node, seen(2, 4000)}, no},
		{"a node's ahead of its own", true, []api.Heard{node, seen(2, 4000), seen(1, 4000)}, api.Span{Lo: 4944, Hi: 5056}},
	} {
		was := api.State{Span: lasting(4000, 9), Time: 4000, Set: true, Held: 2, Hops: 1, Good: true, Stamp: stamp(4000, 5), Life: 7}
		g := gate.New(example(), 0, was)
		m := g.Beat(api.Input{Ticks: 1001, Ref: x.ref, Reading: 5000, Heard: x.heard})
		expect := api.State{Span: x.want, Set: true, Good: true, Life: 7}
		if x.want == no {
			expect.Span, expect.Held = api.Span{Lo: 4991, Hi: 5011}, 3
		}
		expect.Time = g.S.Time
		expect.Stamp = stamp(g.S.Time, 1)
		want(t, x.what, g.S, expect)
		if x.ref != m.Ref || m.Span != expect.Span || m.Held != expect.Held || m.Hops != 0 || !m.Good || m.Stamp != expect.Stamp {
			t.Errorf("%s: it tells %+v", x.what, m)
		}
	}
}

// TestSpansHaveNoSay is P22.1's Beat: of what others tell, what they saw counts, and nothing else that they hold.
func TestSpansHaveNoSay(t *testing.T) {
	beat := func(change func(*api.Msg)) api.State {
		var list []api.Heard
		for from := range 4 {
			h := told(from, lasting(4000, 50), 905)
			change(&h.Msg)
			list = append(list, h)
		}
		g := gate.New(example(), 0, api.State{})
		g.Beat(api.Input{Ticks: 1000, Heard: list})
		return g.S
	}
	plainly := beat(func(*api.Msg) {})
	if plainly.Span != (api.Span{Lo: 4944, Hi: 5056}) || plainly.Time != 5000 || plainly.Stamp != stamp(5000, 1) {
		t.Fatalf("it holds %+v", plainly)
	}
	want(t, "whatever else they tell", beat(func(m *api.Msg) {
		m.Span, m.Held, m.Hops, m.Good, m.Pulse, m.Stamp, m.Table = lasting(9000, 5), 9, 9, true, 99, stamp(5400, 9), table()
	}), plainly)
}

// TestAges is P22.1's Beat: each message goes by its own age.
func TestAges(t *testing.T) {
	g := gate.New(example(), 1, api.State{})
	m := g.Beat(api.Input{Ticks: 1000, Heard: []api.Heard{told(3, lasting(4000, 50), 900), told(0, lasting(4000, 50), 911), told(2, lasting(4000, 50), 905)}})
	if m.Span != (api.Span{Lo: 4944, Hi: 5056}) {
		t.Errorf("its span is %v", m.Span)
	}
	m = g.Beat(api.Input{Ticks: 1000, Heard: []api.Heard{told(3, lasting(4000, 50), 700), told(0, lasting(4000, 50), 760), told(2, lasting(4000, 50), 790)}})
	if m.Span != (api.Span{Lo: 4799, Hi: 4911}) {
		t.Errorf("its span is %v", m.Span)
	}
}

// TestReading is P22.1's Beat of its own reference: when it reads, and what it tells that it sees.
func TestReading(t *testing.T) {
	for _, x := range []struct {
		what    string
		ref     bool
		reading int
		eps     int
		want    api.Span
		read    bool
	}{
		{"it reads", true, 5000, 50, lasting(5000, 50), true},
		{"just so", true, 5000, 0, lasting(5000, 0), true},
		{"nothing to read", false, 5000, 50, api.Span{}, false},
		{"no numbers of a fabric", true, 5000, -1, api.Span{}, false},
		{"the greatest reading", true, 1 << 60, 50, lasting(1<<60, 50), true},
		{"one beyond it", true, 1<<60 + 1, 50, api.Span{}, false},
		{"the least reading", true, -1 << 60, 50, lasting(-1<<60, 50), true},
		{"one beyond that", true, -1<<60 - 1, 50, api.Span{}, false},
		{"far beyond", true, math.MinInt, 50, api.Span{}, false},
	} {
		p := alone()
		p.Eps = x.eps
		g := gate.New(p, 0, api.State{Span: lasting(4000, 9)})
		m := g.Beat(api.Input{Ticks: 1000, Ref: x.ref, Reading: x.reading})
		if m.Ref != x.read || m.Seen != x.want {
			t.Errorf("%s: it tells %v, %v", x.what, m.Ref, m.Seen)
		}
		if x.read && (m.Span != x.want || !m.Good || m.Held != 0) || !x.read && (m.Span != lasting(5000, 10) || m.Good || m.Held != 1) {
			t.Errorf("%s: it holds %+v", x.what, g.S)
		}
	}
}

// TestOthersTooFew is P22.1's Beat of the same: what it tells that it sees hangs on nobody else.
func TestOthersTooFew(t *testing.T) {
	g := gate.New(example(), 2, api.State{})
	m := g.Beat(api.Input{Ticks: 1000, Ref: true, Reading: 5000})
	if !m.Ref || m.Seen != lasting(5000, 50) || m.Good || m.Held != 1 || m.From != 2 || m.Kind != api.FromGate {
		t.Errorf("it tells %+v", m)
	}
}

// TestNothing is P22.1's Beat of nothing that is fused: the span is held, Held is one more, Hops are 0, and the rest stays.
func TestNothing(t *testing.T) {
	for _, x := range []struct {
		what      string
		was, want api.State
		ticks     int
		health    int
	}{
		{"Good stays", api.State{Span: lasting(4000, 9), Time: 4000, Set: true, Good: true, Held: 4, Table: table()}, api.State{Span: lasting(5000, 10), Time: 5000, Set: true, Good: true, Held: 5, Table: table()}, 1000, api.Synced},
		{"above Hold", api.State{Span: lasting(4000, 9), Time: 4000, Set: true, Good: true, Held: 5}, api.State{Span: lasting(5000, 10), Time: 5000, Set: true, Good: true, Held: 6}, 1000, api.Holdover},
		{"what isn't Good isn't", api.State{Span: lasting(4000, 9), Time: 4000, Set: true}, api.State{Span: lasting(5000, 10), Time: 5000, Set: true, Held: 1}, 1000, api.Boot},
		{"Hops are gone", api.State{Span: lasting(4000, 9), Time: 4000, Set: true, Good: true, Hops: 3}, api.State{Span: lasting(5000, 10), Time: 5000, Set: true, Good: true, Held: 1}, 1000, api.Synced},
		{"other ticks", api.State{Span: lasting(4000, 9), Time: 4000, Set: true, Good: true}, api.State{Span: lasting(4700, 10), Time: 4700, Set: true, Good: true, Held: 1}, 700, api.Synced},
		{"it is slewed", api.State{Span: lasting(4030, 9), Time: 4000, Set: true, Good: true}, api.State{Span: lasting(5030, 10), Time: 5020, Set: true, Good: true, Held: 1}, 1000, api.Synced},
		{"Held stays", api.State{Span: lasting(4000, 9), Time: 4000, Set: true, Good: true, Held: 1 << 30}, api.State{Span: lasting(5000, 10), Time: 5000, Set: true, Good: true, Held: 1 << 30}, 1000, api.Holdover},
		{"the ends stay", api.State{Span: api.Span{Lo: -most, Hi: most}, Time: 4000, Set: true}, api.State{Span: api.Span{Lo: -most + 999, Hi: most}, Time: 499, Set: true, Held: 1, Life: 1}, 1000, api.Boot},
	} {
		g := gate.New(example(), 0, x.was)
		m := g.Beat(api.Input{Ticks: x.ticks})
		x.want.Stamp = g.S.Stamp
		want(t, x.what, g.S, x.want)
		if g.Health() != x.health || m.Ref || m.Seen != (api.Span{}) {
			t.Errorf("%s: it tells %+v, its health is %d", x.what, m, g.Health())
		}
	}
}

// TestTable is P22.1's Beat of tables: that which is given is its own, if it is good, and none, if it isn't; nobody else's.
func TestTable(t *testing.T) {
	theirs := told(1, lasting(4000, 50), 905)
	theirs.Msg.Table = full()
	for _, x := range []struct {
		what string
		in   api.Input
		want []api.Leap
	}{
		{"nothing is given", api.Input{}, table()},
		{"a table that isn't given", api.Input{Table: full()}, table()},
		{"one that is", api.Input{Given: true, Table: full()}, full()},
		{"none is given", api.Input{Given: true}, nil},
		{"what is none", api.Input{Given: true, Table: badTables()[1]}, nil},
		{"others' tables", api.Input{Heard: []api.Heard{theirs}}, table()},
		{"others' tables, and one", api.Input{Heard: []api.Heard{theirs}, Given: true, Table: full()[:1]}, full()[:1]},
	} {
		for _, ref := range []bool{false, true} {
			p := example()
			p.F = 0
			g := gate.New(p, 0, api.State{Table: table()})
			x.in.Ticks, x.in.Ref, x.in.Reading = 1000, ref, 5000
			m := g.Beat(x.in)
			if !slices.Equal(g.S.Table, x.want) || !slices.Equal(m.Table, x.want) {
				t.Errorf("%s: it has %v, and tells %v", x.what, g.S.Table, m.Table)
			}
		}
	}
}

// TestSay is P22.1's Say, worked out by hand: the stamp that is told is one more, and the pulse that of a clock that isn't Boot.
func TestSay(t *testing.T) {
	s := api.State{Span: lasting(15000, 7), Time: 15001, Set: true, Held: 5, Hops: 2, Good: true, Table: table(), Stamp: stamp(15001, 4), Life: 3}
	m := api.Msg{Kind: api.FromNode, From: 17, Span: lasting(15000, 7), Held: 5, Hops: 2, Good: true, Ref: true, Seen: lasting(9, 5), Pulse: 3, Stamp: stamp(15001, 5), Table: table()}
	for _, x := range []struct {
		what     string
		of       func(*api.State)
		kind, me int
		read     bool
		want     func(*api.Msg)
	}{
		{"a node", func(*api.State) {}, 2, 17, true, func(*api.Msg) {}},
		{"a gateway", func(*api.State) {}, 1, 3, true, func(m *api.Msg) { m.Kind, m.From = 1, 3 }},
		{"nobody", func(*api.State) {}, math.MinInt, math.MaxInt, true, func(m *api.Msg) { m.Kind, m.From = math.MinInt, math.MaxInt }},
		{"it doesn't read", func(*api.State) {}, 2, 17, false, func(m *api.Msg) { m.Ref, m.Seen = false, api.Span{} }},
		{"Holdover", func(s *api.State) { s.Held = 6 }, 2, 17, true, func(m *api.Msg) { m.Held = 6 }},
		{"not Good", func(s *api.State) { s.Good = false }, 2, 17, true, func(m *api.Msg) { m.Good, m.Pulse = false, 0 }},
		{"not Set", func(s *api.State) { s.Set = false }, 2, 17, true, func(m *api.Msg) { m.Pulse = 0 }},
		{"too many Hops", func(s *api.State) { s.Hops = 3 }, 2, 17, true, func(m *api.Msg) { m.Hops, m.Pulse = 3, 0 }},
		{"a stamp that is late", func(s *api.State) { s.Stamp = stamp(9, 9) }, 2, 17, true, func(m *api.Msg) { m.Stamp = stamp(15001, 0) }},
		{"without a table", func(s *api.State) { s.Table = nil }, 2, 17, true, func(m *api.Msg) { m.Table = nil }},
		{"what can't be", func(s *api.State) {
			s.Span, s.Held, s.Hops, s.Table = api.Span{Lo: 9, Hi: math.MinInt}, -4, -9, badTables()[0]
		}, 2, 17, true,
			func(m *api.Msg) {
				m.Span, m.Held, m.Hops, m.Table = api.Span{Lo: 9, Hi: math.MinInt}, -4, -9, badTables()[0]
			}},
	} {
		f, is := &health.Front{P: example(), S: s}, m
		x.of(&f.S)
		x.want(&is)
		was := f.S
		got := gate.Say(f, x.kind, x.me, x.read, lasting(9, 5))
		want(t, x.what, got, is)
		was.Stamp = got.Stamp
		want(t, x.what+", behind it", f.S, was)
	}
}

// TestSayOfAll is P22.1's Say, of all states.
func TestSayOfAll(t *testing.T) {
	r := some(223)
	for range 20000 {
		p, s := r.params(), r.state()
		f, g := &health.Front{P: p, S: s}, &health.Front{P: p, S: s}
		kind, me, read, seen := r.num(), r.num(), r.yes(), api.Span{Lo: r.num(), Hi: r.num()}
		want(t, "Say", gate.Say(f, kind, me, read, seen), modelSay(g, kind, me, read, seen))
		want(t, "behind Say", f.S, g.S)
	}
}

// TestNil is P22.1 of what is nil: it tells the zero message.
func TestNil(t *testing.T) {
	var g *gate.Gate
	want(t, "a nil gateway", g.Beat(api.Input{Ticks: 1000, Ref: true, Reading: 5000, Given: true, Table: table(), Heard: []api.Heard{told(1, lasting(5, 5), 5)}}), api.Msg{})
	want(t, "a nil front", gate.Say(nil, 1, 3, true, lasting(5, 5)), api.Msg{})
}

// TestBeatOfAll is P22.1's Beat, beat for beat, of all numbers, states and inputs; each beat's state can be.
func TestBeatOfAll(t *testing.T) {
	r := some(224)
	for range 8000 {
		p, me, s := r.params(), r.Intn(20)-2, r.state()
		g := gate.New(p, me, s)
		held := health.Sane(p, s)
		for range 6 {
			in := r.input()
			if r.Intn(4) > 0 {
				in.Given = false
			}
			var said api.Msg
			got := g.Beat(in)
			held, said = modelBeat(p, me, held, in)
			want(t, "what it tells", got, said)
			want(t, "what it holds", g.S, held)
			want(t, "what can be", g.S, health.Sane(p, g.S))
		}
	}
}

// TestWrittenState is P22.1 of a gateway whose state somebody wrote: a beat goes by all the same.
func TestWrittenState(t *testing.T) {
	r := some(225)
	for range 8000 {
		p, me, s, in := r.params(), r.num(), r.state(), r.input()
		g := gate.New(p, 0, api.State{})
		g.Me, g.S = me, s
		got := g.Beat(in)
		held, said := modelBeat(p, me, s, in)
		want(t, "what it tells", got, said)
		want(t, "what it holds", g.S, held)
	}
}

// core is what a gateway hears of others at the end of a beat at a time: so many that are right, and of the rest, at most F, whatever they like.
func (r someone) core(p api.Params, me, right, now int) []api.Heard {
	var list []api.Heard
	liars := p.F
	for _, from := range r.Perm(p.N) {
		if from == me {
			continue
		}
		h := told(from, lasting(now-p.Beat+r.off(p.Eps), p.Eps), r.age(p))
		if right == 0 {
			if liars == 0 {
				break
			}
			liars--
			h.Age, h.Msg.Seen = r.num(), api.Span{Lo: now + r.num()/4, Hi: now + r.num()/4}
		} else {
			right--
		}
		list = append(list, h)
	}
	r.Shuffle(len(list), func(i, j int) { list[i], list[j] = list[j], list[i] })
	return list
}

// off is an error of at most so many ticks, often one of the greatest.
func (r someone) off(most int) int {
	return []int{-most, most, 0, r.within(-most, most)}[r.Intn(4)]
}

// age is what a clock that is right counts behind a message that took as long as it may.
func (r someone) age(p api.Params) int {
	a := carry.Ages(p)
	return []int{a.Lo, a.Hi, r.within(a.Lo, a.Hi)}[r.Intn(3)]
}

// TestInTime is P22.2, of whatever a gateway held, and of fabrics at their ends.
func TestInTime(t *testing.T) {
	r := some(226)
	for _, p := range fabrics(t) {
		for range 12 {
			me, now := r.Intn(p.N), r.within(-1<<50, 1<<50)
			g := gate.New(p, me, r.state())
			in := api.Input{Ticks: r.num(), Ref: true, Reading: now + r.off(p.Eps), Heard: r.core(p, me, r.within(2*p.F, p.N-1), now)}
			m := g.Beat(in)
			if !span.Has(g.S.Span, now) || span.Wide(g.S.Span) > 2*p.Eps+limit.Hop(p) || g.S.Held != 0 || !g.S.Good || g.Health() != api.Synced || m.Span != g.S.Span {
				t.Fatalf("at %d %+v holds %+v, behind\n%+v", now, p, g.S, in)
			}
		}
	}
}

// TestInTimeForMany is P22.2 and P22.3, beat for beat: a gateway that is in time stays so, whether its references and its neighbours are there or not.
func TestInTimeForMany(t *testing.T) {
	r := some(227)
	for _, p := range fabrics(t) {
		now := r.within(-1<<50, 1<<50)
		me, held := r.Intn(p.N), 0
		g := gate.New(p, me, api.State{Span: lasting(now, p.Eps), Time: now, Set: true, Good: true})
		for range 9 {
			now += p.Beat
			in := api.Input{Ticks: p.Beat + r.off(p.Rho)}
			held++
			if r.yes() {
				in.Ref, in.Reading, in.Heard, held = true, now+r.off(p.Eps), r.core(p, me, r.within(2*p.F, p.N-1), now), 0
			}
			was := g.S.Span
			g.Beat(in)
			if !span.Has(g.S.Span, now) || g.S.Held != held || !g.S.Good || held > 0 && span.Wide(g.S.Span) != span.Wide(was)+2*p.Rho {
				t.Fatalf("at %d %+v holds %+v, behind\n%+v", now, p, g.S, in)
			}
		}
	}
}

// TestHeld is P22.3: without enough that is told, or of what parts, the time stays in the span, which gets wider by 2 Rho.
func TestHeld(t *testing.T) {
	r := some(228)
	for _, p := range fabrics(t) {
		for range 6 {
			now, lo, hi := r.within(-1<<50, 1<<50), r.Intn(1<<20), r.Intn(1<<20)
			me := r.Intn(p.N)
			g := gate.New(p, me, api.State{Span: api.Span{Lo: now - p.Beat - lo, Hi: now - p.Beat + hi}, Good: r.yes(), Held: 3, Time: r.num(), Stamp: stamp(r.num(), r.num())})
			good := g.S.Good
			in := api.Input{Ticks: p.Beat + r.off(p.Rho), Ref: r.yes() && p.F > 0, Reading: r.within(-1<<60, 1<<60)}
			for from := range p.N {
				// 2 F tell at most, with what it sees itself.
				if from != me && len(in.Heard) < 2*p.F-1 {
					in.Heard = append(in.Heard, told(from, lasting(r.within(-1<<59, 1<<59), 5), r.num()))
				}
			}
			g.Beat(in)
			if !span.Has(g.S.Span, now) || span.Wide(g.S.Span) != lo+hi+2*p.Rho || g.S.Held != 4 || g.S.Good != good {
				t.Fatalf("at %d %+v holds %+v, behind\n%+v", now, p, g.S, in)
			}
		}
	}
}

// scribble writes into all of a list, and its spare room.
func scribble[T any](list []T) {
	list = list[:cap(list)]
	var zero T
	for i := range list {
		list[i] = zero
	}
}

// crowd is what three gateways tell, with spare room behind the list, and in their tables.
func crowd() []api.Heard {
	list := make([]api.Heard, 0, 5)
	for _, from := range []int{3, 1, 2} {
		h := told(from, lasting(4000, 50), 905)
		h.Msg.Table = roomy()
		list = append(list, h)
	}
	return list
}

// wantCrowd holds what is heard to what crowd made it, spare room included.
func wantCrowd(t *testing.T, list []api.Heard) {
	t.Helper()
	want(t, "what is heard", list[:5], crowd()[:5])
	for _, h := range list {
		if !slices.Equal(h.Msg.Table[:4], roomy()[:4]) {
			t.Errorf("a table that is heard is %v", h.Msg.Table[:4])
		}
	}
}

// TestHandedIn is P22.4: what is handed in stays as it was, and what is written into it later isn't seen.
func TestHandedIn(t *testing.T) {
	first, given, list := roomy(), full(), crowd()
	g := gate.New(example(), 0, api.State{Table: first})
	scribble(first)
	want(t, "its table", g.S.Table, table())
	answer := gate.Told(example(), 0, list)
	m := g.Beat(api.Input{Ticks: 1000, Ref: true, Reading: 5000, Heard: list, Given: true, Table: given})
	wantCrowd(t, list)
	if !slices.Equal(given, full()) {
		t.Errorf("the table that is given is %v", given)
	}
	for _, h := range list {
		scribble(h.Msg.Table)
	}
	scribble(list)
	scribble(given)
	if !slices.Equal(g.S.Table, full()) || !slices.Equal(m.Table, full()) {
		t.Errorf("it has %v, and tells %v", g.S.Table, m.Table)
	}
	for i, h := range answer {
		if h.Msg.From != i+1 || !slices.Equal(h.Msg.Table, table()) {
			t.Errorf("Told is %+v", h)
		}
	}
}

// TestAnswersAreNew is P22.4, and rule 3: what is written into an answer is seen neither by what is handed in, nor by the gateway, nor in another answer.
func TestAnswersAreNew(t *testing.T) {
	list := crowd()
	one, two := gate.Told(example(), 0, list), gate.Told(example(), 0, list)
	for _, h := range one {
		scribble(h.Msg.Table)
	}
	scribble(one)
	wantCrowd(t, list)
	if len(two) != 3 || !slices.Equal(two[0].Msg.Table, table()) || two[0].Msg.From != 1 {
		t.Errorf("the other answer is %+v", two)
	}
	g := gate.New(example(), 0, api.State{Table: table()})
	m := g.Beat(api.Input{Ticks: 1000, Heard: list})
	again := gate.Say(&g.Front, 1, 0, false, api.Span{})
	scribble(m.Table)
	if !slices.Equal(g.S.Table, table()) || !slices.Equal(again.Table, table()) {
		t.Errorf("it has %v, and told %v", g.S.Table, again.Table)
	}
	scribble(again.Table)
	if !slices.Equal(g.S.Table, table()) {
		t.Errorf("it has %v", g.S.Table)
	}
}

// TestAgain is rule 4: two gateways that are told the same hold the same, and know nothing of one another.
func TestAgain(t *testing.T) {
	r := some(229)
	for range 500 {
		p, me, s := r.params(), r.Intn(5), r.state()
		one, two, last := gate.New(p, me, s), gate.New(p, me, s), gate.New(p, me, s)
		at := last.S
		for range 4 {
			in := r.input()
			want(t, "what both tell", one.Beat(in), two.Beat(in))
			want(t, "what both hold", one.S, two.S)
		}
		want(t, "the one that nothing befell", last.S, at)
	}
}
