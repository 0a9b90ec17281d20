package route_test

import (
	"math"
	"math/rand"
	"reflect"
	"slices"
	"testing"

	"clepsydra/api"
	"clepsydra/route"
)

// of is a fabric of which only D counts.
func of(d int) api.Params { return api.Params{D: d} }

// edges are numbers around 0, around MaxHops, and where numbers end.
func edges() []int {
	return []int{math.MinInt, math.MinInt + 1, -api.Most, -17, -2, -1, 0, 1, 2, 3, 4, 5, 14, 15, 16, 17, 18,
		47, 48, api.MaxHeld - 1, api.MaxHeld, api.MaxHeld + 1, api.Most, math.MaxInt - 1, math.MaxInt}
}

// msg is one that may be followed, if hops may be.
func msg(from, hops, held int) api.Msg {
	return api.Msg{Kind: api.FromNode, From: from, Hops: hops, Held: held, Good: true}
}

// modelNext asks for each number of steps, from the least one on, whether a neighbour has it.
func modelNext(d int, list []int) int {
	for steps := 0; steps < d; steps++ {
		if slices.Contains(list, steps) {
			return steps + 1
		}
	}
	return d + 1
}

// modelUsable goes by what a message must not be.
func modelUsable(d int, m api.Msg) bool {
	switch {
	case m.Kind != api.FromNode, !m.Good, m.Span.Lo > m.Span.Hi:
		return false
	case m.Hops < 0, m.Hops > d-1:
		return false
	}
	return true
}

// modelChoose narrows the usable messages three times, and takes the first of those that are left.
func modelChoose(d int, list []api.Msg) (api.Msg, bool) {
	var left []api.Msg
	for _, m := range list {
		if modelUsable(d, m) {
			left = append(left, m)
		}
	}
	left = leastOf(left, func(m api.Msg) int { return m.Hops })
	left = leastOf(left, func(m api.Msg) int { return m.Held })
	left = leastOf(left, func(m api.Msg) int { return m.From })
	if len(left) == 0 {
		return api.Msg{}, false
	}
	return left[0], true
}

// leastOf are those messages of which a number is least, in order.
func leastOf(list []api.Msg, number func(api.Msg) int) []api.Msg {
	least := math.MaxInt
	for _, m := range list {
		least = min(least, number(m))
	}
	var left []api.Msg
	for _, m := range list {
		if number(m) == least {
			left = append(left, m)
		}
	}
	return left
}

// sameMsg is whether two messages are the same, be an empty table nil or not.
func sameMsg(a, b api.Msg) bool {
	same := slices.Equal(a.Table, b.Table)
	a.Table, b.Table = nil, nil
	return same && reflect.DeepEqual(a, b)
}

// checkChoose holds Choose of some messages against the model.
func checkChoose(t *testing.T, d int, list []api.Msg) {
	t.Helper()
	want, wantOK := modelChoose(d, list)
	got, ok := route.Choose(of(d), list...)
	if ok != wantOK || !sameMsg(got, want) {
		t.Fatalf("D %d: Choose(%+v) is %+v, %v, not %+v, %v", d, list, got, ok, want, wantOK)
	}
}

// someMsg is one of few different ones, so that many are alike, or, at times, one whose numbers are edges.
func someMsg(r *rand.Rand) api.Msg {
	n := func(few int) int {
		if r.Intn(12) == 0 {
			return edges()[r.Intn(len(edges()))]
		}
		return r.Intn(few)
	}
	m := msg(16+n(3), n(5), n(3))
	m.Pulse = r.Intn(1000) // It tells messages apart that are alike in all that counts.
	m.Span = api.Span{Lo: n(4), Hi: 3 + n(4)}
	m.Table = []api.Leap{{At: r.Intn(100), Off: 1}}
	switch r.Intn(8) {
	case 0:
		m.Good = false
	case 1:
		m.Kind = n(4)
	case 2:
		m.Span = api.Span{Lo: n(5), Hi: n(5)}
	}
	return m
}

// TestExamples are the chapter's.
func TestExamples(t *testing.T) {
	p := of(4)
	if got := route.Next(p, 3, 1, 9); got != 2 {
		t.Errorf("Next(3, 1, 9) is %d", got)
	}
	if got := route.Next(p, 4, 7); got != 5 {
		t.Errorf("Next(4, 7) is %d", got)
	}
	if got := route.Next(p); got != 5 {
		t.Errorf("Next() is %d", got)
	}
}

// TestLost is P15.1's Lost: one more than D, whatever else the fabric's numbers are.
func TestLost(t *testing.T) {
	for d := 0; d <= api.MaxHops; d++ {
		full := api.Params{N: 4, F: 1, D: d, Beat: 1000, Rho: 1, Delay: 100, Jitter: 10, Eps: 50, Mu: 20, Hold: 5, Pulse: 5000, Second: 1000}
		if route.Lost(of(d)) != d+1 || route.Lost(full) != d+1 {
			t.Errorf("D %d: Lost is %d and %d", d, route.Lost(of(d)), route.Lost(full))
		}
	}
}

// TestNext is P15.1's Next, worked out by hand: at the ends of what counts, and of what doesn't.
func TestNext(t *testing.T) {
	for _, c := range []struct {
		d    int
		list []int
		want int
	}{
		{4, []int{0}, 1}, {4, []int{1}, 2}, {4, []int{2}, 3}, {4, []int{3}, 4},
		// Who has D steps, or more, leads nobody; nor who has less than none.
		{4, []int{4}, 5}, {4, []int{5}, 5}, {4, []int{6}, 5}, {4, []int{-1}, 5},
		{4, []int{math.MaxInt}, 5}, {4, []int{math.MinInt}, 5}, {4, []int{api.Most, -api.Most}, 5},
		// The least of those that count, wherever it stands.
		{4, []int{3, 2, 1}, 2}, {4, []int{1, 2, 3}, 2}, {4, []int{2, 1, 3}, 2}, {4, []int{2, 2}, 3},
		{4, []int{-1, 3}, 4}, {4, []int{3, -1}, 4}, {4, []int{-5, 9, 2, 9, -5}, 3}, {4, []int{math.MinInt, 0, math.MaxInt}, 1},
		// D 0: nobody leads, not even the core; D 1: the core alone.
		{0, nil, 1}, {0, []int{0}, 1}, {0, []int{-1, 1}, 1},
		{1, nil, 2}, {1, []int{0}, 1}, {1, []int{1}, 2}, {1, []int{-1}, 2},
		{16, nil, 17}, {16, []int{15}, 16}, {16, []int{16}, 17}, {16, []int{17}, 17},
	} {
		if got := route.Next(of(c.d), c.list...); got != c.want {
			t.Errorf("D %d: Next(%v) is %d, not %d", c.d, c.list, got, c.want)
		}
	}
}

// TestNextOfAll is P15.1's Next of each pair of edges, in all fabrics, and of long lists.
func TestNextOfAll(t *testing.T) {
	r := rand.New(rand.NewSource(15))
	for d := 0; d <= api.MaxHops; d++ {
		check := func(list []int) {
			if got, want := route.Next(of(d), list...), modelNext(d, list); got != want {
				t.Fatalf("D %d: Next(%v) is %d, not %d", d, list, got, want)
			}
		}
		check(nil)
		check([]int{})
		for _, a := range edges() {
			check([]int{a})
			for _, b := range edges() {
				check([]int{a, b})
			}
		}
		for range 500 {
			list := make([]int, r.Intn(40))
			for i := range list {
				list[i] = r.Intn(25) - 3
			}
			check(list)
		}
	}
}

// TestUsable is P15.1's Usable: each of the four things counts by itself.
func TestUsable(t *testing.T) {
	good := api.Msg{Kind: api.FromNode, From: 17, Span: api.Span{Lo: 1, Hi: 5}, Held: 3, Hops: 2, Good: true}
	for _, c := range []struct {
		name   string
		change func(*api.Msg)
		want   bool
	}{
		{"as it is", func(m *api.Msg) {}, true},
		{"a gateway's", func(m *api.Msg) { m.Kind = api.FromGate }, false},
		{"of kind 0", func(m *api.Msg) { m.Kind = 0 }, false},
		{"of kind 3", func(m *api.Msg) { m.Kind = 3 }, false},
		{"of kind -2", func(m *api.Msg) { m.Kind = -2 }, false},
		{"not good", func(m *api.Msg) { m.Good = false }, false},
		{"hops 0", func(m *api.Msg) { m.Hops = 0 }, true},
		{"hops -1", func(m *api.Msg) { m.Hops = -1 }, false},
		{"hops D - 1", func(m *api.Msg) { m.Hops = 3 }, true},
		{"hops D", func(m *api.Msg) { m.Hops = 4 }, false},
		{"hops D + 1", func(m *api.Msg) { m.Hops = 5 }, false},
		{"the least hops", func(m *api.Msg) { m.Hops = math.MinInt }, false},
		{"the greatest hops", func(m *api.Msg) { m.Hops = math.MaxInt }, false},
		{"a span of one time", func(m *api.Msg) { m.Span = api.Span{Lo: 5, Hi: 5} }, true},
		{"an empty span", func(m *api.Msg) { m.Span = api.Span{Lo: 6, Hi: 5} }, false},
		{"the whole span", func(m *api.Msg) { m.Span = api.Span{Lo: math.MinInt, Hi: math.MaxInt} }, true},
		{"the emptiest span", func(m *api.Msg) { m.Span = api.Span{Lo: math.MaxInt, Hi: math.MinInt} }, false},
		{"empty, far beyond Most", func(m *api.Msg) { m.Span = api.Span{Lo: math.MaxInt, Hi: api.Most + 1} }, false},
		{"not empty, far beyond Most", func(m *api.Msg) { m.Span = api.Span{Lo: api.Most + 1, Hi: math.MaxInt} }, true},
		// Nothing else counts, be it as wrong as can be.
		{"from a gateway's number", func(m *api.Msg) { m.From = 3 }, true},
		{"from nobody", func(m *api.Msg) { m.From = -1 }, true},
		{"held long ago", func(m *api.Msg) { m.Held = api.MaxHeld + 1 }, true},
		{"held below 0", func(m *api.Msg) { m.Held = -1 }, true},
		{"a reference that saw nothing", func(m *api.Msg) { m.Ref, m.Seen = true, api.Span{Lo: 1} }, true},
		{"a stamp that can't be", func(m *api.Msg) { m.Stamp = api.Stamp{Time: math.MaxInt, Num: -1} }, true},
		{"a table that is none", func(m *api.Msg) { m.Table = []api.Leap{{At: -1, Off: 7}} }, true},
	} {
		m := good
		c.change(&m)
		if got := route.Usable(of(4), m); got != c.want {
			t.Errorf("%s: Usable is %v", c.name, got)
		}
		if got, ok := route.Choose(of(4), m); ok != c.want || c.want && !sameMsg(got, m) || !c.want && !sameMsg(got, api.Msg{}) {
			t.Errorf("%s: Choose is %+v, %v", c.name, got, ok)
		}
	}
}

// TestUsableOfAll is P15.1's Usable of edges in all fabrics.
func TestUsableOfAll(t *testing.T) {
	for d := 0; d <= api.MaxHops; d++ {
		for _, hops := range edges() {
			for _, kind := range edges() {
				m := msg(16, hops, 0)
				m.Kind = kind
				if got := route.Usable(of(d), m); got != modelUsable(d, m) {
					t.Fatalf("D %d: Usable(%+v) is %v", d, m, got)
				}
			}
			for _, lo := range edges() {
				for _, hi := range edges() {
					m := msg(16, hops, 0)
					m.Span = api.Span{Lo: lo, Hi: hi}
					if got := route.Usable(of(d), m); got != modelUsable(d, m) {
						t.Fatalf("D %d: Usable(%+v) is %v", d, m, got)
					}
				}
			}
		}
	}
}

// TestChoose is P15.1's Choose, worked out by hand: hops count ahead of held, and held ahead of from.
func TestChoose(t *testing.T) {
	gate := msg(2, 0, 0)
	gate.Kind = api.FromGate
	bad := msg(16, 0, 0)
	bad.Good = false
	empty := msg(16, 0, 0)
	empty.Span = api.Span{Lo: 1}
	for _, c := range []struct {
		list []api.Msg
		want int // the place of the one that is chosen; -1: none is
	}{
		{nil, -1},
		{[]api.Msg{msg(20, 3, 9)}, 0},
		{[]api.Msg{msg(20, 2, 0), msg(21, 1, 9)}, 1},
		{[]api.Msg{msg(21, 1, 9), msg(20, 2, 0)}, 0},
		{[]api.Msg{msg(20, 1, 5), msg(21, 1, 4)}, 1},
		{[]api.Msg{msg(21, 1, 4), msg(20, 1, 5)}, 0},
		{[]api.Msg{msg(21, 1, 4), msg(20, 1, 4)}, 1},
		{[]api.Msg{msg(20, 1, 4), msg(21, 1, 4)}, 0},
		{[]api.Msg{msg(20, 3, 3), msg(22, 2, 3), msg(21, 2, 3), msg(19, 2, 4)}, 2},
		{[]api.Msg{msg(9, 2, 0), msg(8, 1, 5), msg(7, 1, 4), msg(6, 1, 4), msg(5, 4, 0)}, 3},
		// What isn't usable doesn't count, be it better otherwise.
		{[]api.Msg{gate, bad, empty, msg(16, -1, 0), msg(16, 4, 0)}, -1},
		{[]api.Msg{gate, bad, msg(30, 3, 30), empty, msg(16, -1, 0), msg(16, 4, 0)}, 2},
		// Numbers are compared, and don't wrap, at their ends.
		{[]api.Msg{msg(20, 1, math.MaxInt), msg(20, 1, math.MinInt)}, 1},
		{[]api.Msg{msg(20, 1, math.MinInt), msg(20, 1, math.MaxInt)}, 0},
		{[]api.Msg{msg(math.MaxInt, 1, 1), msg(math.MinInt, 1, 1)}, 1},
		{[]api.Msg{msg(math.MinInt, 1, 1), msg(math.MaxInt, 1, 1)}, 0},
		{[]api.Msg{msg(20, 1, math.MaxInt)}, 0},
		{[]api.Msg{msg(0, 3, math.MaxInt), msg(math.MaxInt, 3, 0)}, 1},
		{[]api.Msg{msg(0, 0, 0), msg(-1, 0, 0), msg(-1, 0, -1)}, 2},
	} {
		got, ok := route.Choose(of(4), c.list...)
		var want api.Msg
		if c.want >= 0 {
			want = c.list[c.want]
		}
		if ok != (c.want >= 0) || !sameMsg(got, want) {
			t.Errorf("Choose(%+v) is %+v, %v", c.list, got, ok)
		}
	}
}

// TestFirst is P15.1's first of several: those that are alike in all three are told apart by what doesn't count.
func TestFirst(t *testing.T) {
	list := make([]api.Msg, 6)
	for i := range list {
		list[i] = msg(20, 1, 4)
		list[i].Pulse = 10 - i
		list[i].Span = api.Span{Lo: i, Hi: 10 - i} // The last one is the narrowest, which doesn't count.
		list[i].Stamp = api.Stamp{Time: i}
	}
	for len(list) > 0 {
		if got, ok := route.Choose(of(4), append([]api.Msg{msg(20, 2, 0)}, list...)...); !ok || got.Pulse != list[0].Pulse {
			t.Errorf("of %d, Choose is %+v, %v", len(list), got, ok)
		}
		list = list[1:]
	}
}

// TestChooseWhole is P15.1's Choose: all that the message tells is answered.
func TestChooseWhole(t *testing.T) {
	m := api.Msg{Kind: api.FromNode, From: 17, Span: api.Span{Lo: 1, Hi: 5}, Held: 3, Hops: 2, Good: true, Ref: true,
		Seen: api.Span{Lo: 6, Hi: 7}, Pulse: 8, Stamp: api.Stamp{Time: 9, Num: 10}, Table: []api.Leap{{At: 11, Off: 1}, {At: 12, Off: 2}}}
	if got, ok := route.Choose(of(4), msg(18, 3, 0), m, msg(18, 2, 4)); !ok || !reflect.DeepEqual(got, m) {
		t.Errorf("Choose is %+v, %v", got, ok)
	}
}

// TestChooseShort is P15.1's Choose of all lists of at most three out of some messages, each in each place.
func TestChooseShort(t *testing.T) {
	var some []api.Msg
	for _, hops := range []int{-1, 0, 1, 2} {
		for _, held := range []int{0, 1} {
			for _, from := range []int{16, 17} {
				some = append(some, msg(from, hops, held))
			}
		}
	}
	gate, bad, empty := msg(15, 0, 0), msg(15, 0, 0), msg(15, 0, 0)
	gate.Kind, bad.Good, empty.Span = api.FromGate, false, api.Span{Lo: 1}
	some = append(some, gate, bad, empty)
	number := func(i int, m api.Msg) api.Msg {
		m.Pulse = i
		return m
	}
	for d := range 4 {
		checkChoose(t, d, nil)
		checkChoose(t, d, []api.Msg{})
		for _, a := range some {
			checkChoose(t, d, []api.Msg{a})
			for _, b := range some {
				checkChoose(t, d, []api.Msg{number(1, a), number(2, b)})
				for _, c := range some {
					checkChoose(t, d, []api.Msg{number(1, a), number(2, b), number(3, c)})
				}
			}
		}
	}
}

// TestBest is P15.1's Choose of long lists, and P15.3: what is chosen is usable, and one of those that were told, and nothing usable is better.
func TestBest(t *testing.T) {
	r := rand.New(rand.NewSource(153))
	found := 0
	for range 20000 {
		d := r.Intn(api.MaxHops + 1)
		list := make([]api.Msg, r.Intn(12))
		for i := range list {
			list[i] = someMsg(r)
		}
		checkChoose(t, d, list)
		got, ok := route.Choose(of(d), list...)
		if ok {
			found++
		}
		if ok != slices.ContainsFunc(list, func(m api.Msg) bool { return route.Usable(of(d), m) }) {
			t.Fatalf("D %d: Choose(%+v) is %v", d, list, ok)
		}
		if ok && (!route.Usable(of(d), got) || !slices.ContainsFunc(list, func(m api.Msg) bool { return sameMsg(m, got) })) {
			t.Fatalf("D %d: Choose(%+v) is %+v", d, list, got)
		}
		for _, m := range list {
			if route.Usable(of(d), m) && better(m, got) {
				t.Fatalf("D %d: Choose(%+v) is %+v, and %+v is better", d, list, got, m)
			}
		}
	}
	if found < 5000 {
		t.Errorf("only %d lists had one that is usable", found)
	}
}

// better is whether a is better than b, by the first number in which they differ.
func better(a, b api.Msg) bool {
	x, y := [3]int{a.Hops, a.Held, a.From}, [3]int{b.Hops, b.Held, b.From}
	for i := range x {
		if x[i] != y[i] {
			return x[i] < y[i]
		}
	}
	return false
}

// TestSomeOrder is P15.3: whatever the order in which messages come, one that is as good is chosen.
func TestSomeOrder(t *testing.T) {
	r := rand.New(rand.NewSource(154))
	for range 2000 {
		list := make([]api.Msg, 1+r.Intn(8))
		for i := range list {
			list[i] = someMsg(r)
		}
		first, ok := route.Choose(of(4), list...)
		r.Shuffle(len(list), func(i, j int) { list[i], list[j] = list[j], list[i] })
		second, still := route.Choose(of(4), list...)
		if ok != still || better(first, second) || better(second, first) {
			t.Fatalf("Choose(%+v) is %+v, %v, and %+v, %v in another order", list, second, still, first, ok)
		}
	}
}

// TestOtherD: of a D that can't be, nothing is promised but that the calls end.
func TestOtherD(t *testing.T) {
	for _, d := range edges() {
		route.Lost(of(d))
		route.Next(of(d))
		route.Next(of(d), edges()...)
		var list []api.Msg
		for _, hops := range edges() {
			route.Usable(of(d), msg(16, hops, 0))
			list = append(list, msg(16, hops, 0))
		}
		route.Choose(of(d))
		route.Choose(of(d), list...)
	}
}

// TestHandedIn: lists stay as they were, with their spare room, and what is written into them later isn't seen in an answer, nor an answer in them.
func TestHandedIn(t *testing.T) {
	steps := append(make([]int, 0, 8), 3, -1, 1)
	route.Next(of(4), steps...)
	if !slices.Equal(steps[:8], []int{3, -1, 1, 0, 0, 0, 0, 0}) {
		t.Errorf("the steps are %v", steps[:8])
	}
	table := append(make([]api.Leap, 0, 4), api.Leap{At: 11, Off: 1})
	m := msg(20, 1, 4)
	m.Table = table
	list := append(make([]api.Msg, 0, 4), msg(19, 2, 0), m)
	got, _ := route.Choose(of(4), list...)
	again, _ := route.Choose(of(4), list...)
	for i, want := range []api.Msg{msg(19, 2, 0), m, {}, {}} {
		if !sameMsg(list[:4][i], want) {
			t.Errorf("the message at %d is %+v", i, list[:4][i])
		}
	}
	// What an answer has room for is written over, too.
	for i := range got.Table[:cap(got.Table)] {
		got.Table[:cap(got.Table)][i] = api.Leap{At: -7, Off: -7}
	}
	if !slices.Equal(table[:4], []api.Leap{{At: 11, Off: 1}, {}, {}, {}}) {
		t.Errorf("the table is %v", table[:4])
	}
	if !slices.Equal(again.Table, []api.Leap{{At: 11, Off: 1}}) {
		t.Errorf("the other answer's table is %v", again.Table)
	}
	table[0] = api.Leap{At: 5, Off: 5}
	list[1] = api.Msg{}
	if again.From != 20 || !slices.Equal(again.Table, []api.Leap{{At: 11, Off: 1}}) {
		t.Errorf("the answer is %+v", again)
	}
}

// TestNotChosen: a message that isn't chosen stays as it was, its table, too, and nothing of it is answered.
func TestNotChosen(t *testing.T) {
	m := msg(20, 4, 0)
	m.Table = []api.Leap{{At: 11, Off: 1}}
	got, ok := route.Choose(of(4), m)
	if ok || len(got.Table) != 0 || !sameMsg(got, api.Msg{}) {
		t.Errorf("Choose is %+v, %v", got, ok)
	}
	if !slices.Equal(m.Table, []api.Leap{{At: 11, Off: 1}}) {
		t.Errorf("the table is %v", m.Table)
	}
}

// fabric is nodes: whom each of them hears, and which of them hear the core.
type fabric struct {
	near [][]int
	core []bool
}

// ways are the steps of the shortest way from each node to the core: it grows from the core on, and who has at most d of them isn't lost.
func (f fabric) ways(d int) []int {
	far := make([]int, len(f.near))
	for i := range far {
		far[i] = d + 1
		if f.core[i] {
			far[i] = 0
		}
	}
	for steps := 1; steps <= d; steps++ {
		for i, near := range f.near {
			if far[i] > steps && slices.ContainsFunc(near, func(j int) bool { return far[j] == steps-1 }) {
				far[i] = steps
			}
		}
	}
	return far
}

// beat is the nodes' steps behind a beat.
func (f fabric) beat(d int, steps []int) []int {
	next := make([]int, len(steps))
	for i, near := range f.near {
		var heard []int
		for _, j := range near {
			heard = append(heard, steps[j])
		}
		if !f.core[i] {
			next[i] = route.Next(of(d), heard...)
		}
	}
	return next
}

// checkFlush is P15.2 of a fabric, and of what steps its nodes had.
func (f fabric) checkFlush(t *testing.T, d int, had []int) {
	t.Helper()
	steps := had
	for range d + 1 {
		steps = f.beat(d, steps)
	}
	want := f.ways(d)
	for more := range 3 {
		if !slices.Equal(steps, want) {
			t.Fatalf("D %d, %+v, from %v: %d beats behind D + 1 steps are %v, not %v", d, f, had, more, steps, want)
		}
		steps = f.beat(d, steps)
	}
}

// small is a fabric of few nodes: each bit of links is whether two are neighbours, each one of core whether a node hears the core.
func small(nodes, links, core int) fabric {
	f := fabric{near: make([][]int, nodes), core: make([]bool, nodes)}
	for i := range nodes {
		f.core[i] = core>>i&1 == 1
		for j := range i {
			if links&1 == 1 {
				f.near[i] = append(f.near[i], j)
				f.near[j] = append(f.near[j], i)
			}
			links >>= 1
		}
	}
	return f
}

// TestFlushSmall is P15.2 of all fabrics of three nodes, from all steps, and of all of four nodes, from some.
func TestFlushSmall(t *testing.T) {
	r := rand.New(rand.NewSource(152))
	for d := range 4 {
		for links := range 1 << 3 {
			for core := range 1 << 3 {
				for a := -1; a <= d+2; a++ {
					for b := -1; b <= d+2; b++ {
						for c := -1; c <= d+2; c++ {
							small(3, links, core).checkFlush(t, d, []int{a, b, c})
						}
					}
				}
			}
		}
		for links := range 1 << 6 {
			for core := range 1 << 4 {
				for range 10 {
					had := make([]int, 4)
					for i := range had {
						had[i] = r.Intn(d+4) - 1
					}
					small(4, links, core).checkFlush(t, d, had)
				}
			}
		}
	}
}

// chain is nodes of which each hears its two neighbours, and the first one the core, if it is to.
func chain(nodes int, core bool) fabric {
	f := fabric{near: make([][]int, nodes), core: make([]bool, nodes)}
	f.core[0] = core
	for i := range nodes - 1 {
		f.near[i] = append(f.near[i], i+1)
		f.near[i+1] = append(f.near[i+1], i)
	}
	return f
}

// TestFlushChain is P15.2 of chains: from the last one that isn't lost to the first one that is, whatever all had.
func TestFlushChain(t *testing.T) {
	for d := 0; d <= api.MaxHops; d++ {
		for _, core := range []bool{true, false} {
			f := chain(d+3, core)
			for _, had := range edges() {
				f.checkFlush(t, d, slices.Repeat([]int{had}, d+3))
			}
			// Each one has what would be right, were the core at the chain's other end.
			wrong := make([]int, d+3)
			for i := range wrong {
				wrong[i] = len(wrong) - 1 - i
			}
			f.checkFlush(t, d, wrong)
		}
	}
}

// TestFlushTakes is that P15.2's beats are needed, and that the way of the chain's nodes is as it is told by hand.
func TestFlushTakes(t *testing.T) {
	f := chain(6, true)
	want := []int{0, 1, 2, 3, 4, 5}
	steps := slices.Repeat([]int{5}, 6)
	for beat := range 5 {
		if slices.Equal(steps, want) {
			t.Errorf("%d beats were enough", beat)
		}
		steps = f.beat(4, steps)
	}
	if !slices.Equal(steps, want) {
		t.Errorf("steps are %v", steps)
	}
	// Two that only hear one another follow each other, until both are lost.
	f = fabric{near: [][]int{{1}, {0}}, core: make([]bool, 2)}
	steps = []int{0, 0}
	for beat := 1; beat <= 6; beat++ {
		steps = f.beat(4, steps)
		if want := min(beat, 5); steps[0] != want || steps[1] != want {
			t.Errorf("behind %d beats steps are %v", beat, steps)
		}
	}
}

// TestFlushLarge is P15.2 of fabrics of as many nodes as there may be, with links of one way, too, from all kinds of steps.
func TestFlushLarge(t *testing.T) {
	r := rand.New(rand.NewSource(155))
	for range 3000 {
		nodes := 1 + r.Intn(api.MaxNodes)
		f := fabric{near: make([][]int, nodes), core: make([]bool, nodes)}
		for i := range nodes {
			f.core[i] = r.Intn(12) == 0
			for range r.Intn(4) {
				j := r.Intn(nodes)
				f.near[i] = append(f.near[i], j)
				if r.Intn(2) == 0 {
					f.near[j] = append(f.near[j], i)
				}
			}
		}
		had := make([]int, nodes)
		for i := range had {
			had[i] = r.Intn(20) - 1
			if r.Intn(8) == 0 {
				had[i] = edges()[r.Intn(len(edges()))]
			}
		}
		f.checkFlush(t, r.Intn(api.MaxHops+1), had)
	}
}
