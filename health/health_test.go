package health_test

import (
	"math"
	"reflect"
	"slices"
	"testing"

	"clepsydra/api"
	"clepsydra/health"
	"clepsydra/limit"
	"clepsydra/slew"
)

// TestExamples are the chapter's.
func TestExamples(t *testing.T) {
	f := &health.Front{P: example()}
	if n, e := f.Now(); n != 0 || e != api.ErrSync || f.Health() != api.Boot {
		t.Errorf("Now is %d, %d, and the health %d", n, e, f.Health())
	}
	f.Step(1000, api.State{Span: api.Span{Lo: 900, Hi: 1100}, Good: true})
	if n, e := f.Now(); n != 1000 || e != api.OK || f.Health() != api.Synced {
		t.Errorf("Now is %d, %d, and the health %d", n, e, f.Health())
	}
}

// TestSane is P21.1's Sane, field by field: what can be stays, what is beyond is brought back.
func TestSane(t *testing.T) {
	type state = api.State
	well := but(synced(5000), func(s *state) { s.Held, s.Hops, s.Life, s.Table = 3, 2, 9, goodTables()[2] })
	wantState(t, "what can be", health.Sane(example(), well), well)
	all := api.Span{Lo: -most, Hi: most}
	for _, x := range []struct {
		what     string
		of, want func(*state)
	}{
		{"Set", func(s *state) { s.Set = false }, func(s *state) { s.Set = false }},
		{"Good", func(s *state) { s.Good = false }, func(s *state) { s.Good = false }},
		{"one time", func(s *state) { s.Span = lasting(7, 0) }, func(s *state) { s.Span = lasting(7, 0) }},
		{"an empty span", func(s *state) { s.Span = api.Span{Lo: 8, Hi: 7} }, func(s *state) { s.Span, s.Good = all, false }},
		{"a span beyond", func(s *state) { s.Span = api.Span{Lo: math.MinInt, Hi: math.MaxInt} }, func(s *state) { s.Span = all }},
		{"an end beyond", func(s *state) { s.Span = api.Span{Lo: 5, Hi: most + 1} }, func(s *state) { s.Span = api.Span{Lo: 5, Hi: most} }},
		{"one that is empty, and isn't clipped", func(s *state) { s.Span = api.Span{Lo: most + 2, Hi: most + 1} }, func(s *state) { s.Span = api.Span{Lo: most, Hi: most} }},
		{"and below", func(s *state) { s.Span = api.Span{Lo: -most, Hi: -most - 1} }, func(s *state) { s.Span = api.Span{Lo: -most, Hi: -most} }},
		{"one that is empty, clipped or not", func(s *state) { s.Span = api.Span{Lo: math.MaxInt, Hi: math.MinInt} }, func(s *state) { s.Span, s.Good = all, false }},
		{"a Time", func(s *state) { s.Time = most + 1 }, func(s *state) { s.Time = most }},
		{"a Time below", func(s *state) { s.Time = -most - 1 }, func(s *state) { s.Time = -most }},
		{"Held", func(s *state) { s.Held = 1 << 30 }, func(s *state) { s.Held = 1 << 30 }},
		{"Held above", func(s *state) { s.Held = 1<<30 + 1 }, func(s *state) { s.Held = 1 << 30 }},
		{"Held below", func(s *state) { s.Held = -1 }, func(s *state) { s.Held = 0 }},
		{"Hops", func(s *state) { s.Hops = 3 }, func(s *state) { s.Hops = 3 }},
		{"Hops above", func(s *state) { s.Hops = 4 }, func(s *state) { s.Hops = 3 }},
		{"Hops below", func(s *state) { s.Hops = -1 }, func(s *state) { s.Hops = 0 }},
		{"Life", func(s *state) { s.Life = most }, func(s *state) { s.Life = most }},
		{"Life above", func(s *state) { s.Life = most + 1 }, func(s *state) { s.Life = most }},
		{"Life below", func(s *state) { s.Life = -1 }, func(s *state) { s.Life = 0 }},
		{"the greatest stamp", func(s *state) { s.Stamp = stamp(most, 1<<30) }, func(s *state) { s.Stamp = stamp(most, 1<<30) }},
		{"the least stamp", func(s *state) { s.Stamp = stamp(-most, 0) }, func(s *state) { s.Stamp = stamp(-most, 0) }},
		{"a stamp's Time", func(s *state) { s.Stamp = stamp(most+1, 3) }, func(s *state) { s.Stamp = stamp(5000, 0) }},
		{"a stamp's Time below", func(s *state) { s.Stamp = stamp(-most-1, 3) }, func(s *state) { s.Stamp = stamp(5000, 0) }},
		{"a stamp's Num", func(s *state) { s.Stamp = stamp(7, 1<<30+1) }, func(s *state) { s.Stamp = stamp(5000, 0) }},
		{"a stamp's Num below", func(s *state) { s.Stamp = stamp(7, -1) }, func(s *state) { s.Stamp = stamp(5000, 0) }},
		{"a stamp and a Time", func(s *state) { s.Stamp, s.Time = stamp(7, -1), math.MaxInt }, func(s *state) { s.Stamp, s.Time = stamp(most, 0), most }},
	} {
		wantState(t, x.what, health.Sane(example(), but(well, x.of)), but(well, x.want))
	}
}

// TestSaneByD is P21.1's Sane: one step more than D is the most, whatever D is.
func TestSaneByD(t *testing.T) {
	for _, x := range []struct{ d, hops, want int }{
		{0, 0, 0}, {0, 1, 1}, {0, 2, 1}, {16, 17, 17}, {16, 18, 17}, {-1, 5, 0}, {-1, -5, 0}, {-2, 5, 0}, {math.MinInt, 5, 0}, {math.MinInt, math.MinInt, 0},
		{most - 1, most, most}, {most - 1, most + 1, most}, {most, most + 1, most}, {math.MaxInt, math.MaxInt, most}, {math.MaxInt, 9, 9},
	} {
		if got := health.Sane(api.Params{D: x.d}, api.State{Hops: x.hops}).Hops; got != x.want {
			t.Errorf("of D %d the Hops of Sane of %d are %d, not %d", x.d, x.hops, got, x.want)
		}
	}
}

// TestSaneTables is P21.1's Sane: good tables stay, others are none.
func TestSaneTables(t *testing.T) {
	for _, list := range goodTables() {
		if got := health.Sane(example(), api.State{Table: list}).Table; !slices.Equal(got, list) {
			t.Errorf("%v becomes %v", list, got)
		}
	}
	for _, list := range badTables() {
		if got := health.Sane(example(), api.State{Table: list}).Table; len(got) != 0 {
			t.Errorf("%v becomes %v", list, got)
		}
	}
}

// TestSaneOfAll is P21.1's Sane, and P21.2: Sane of Sane is the same again.
func TestSaneOfAll(t *testing.T) {
	r := some(211)
	for range 60000 {
		p, s := r.params(), r.state()
		got := health.Sane(p, s)
		wantState(t, "Sane", got, modelSane(p, s))
		wantState(t, "Sane of Sane", health.Sane(p, got), got)
	}
}

// TestOf is P21.1's Of and Health: each field at its end, and beyond it; Boot goes first.
func TestOf(t *testing.T) {
	for _, x := range []struct {
		what string
		s    api.State
		want int
	}{
		{"nothing", api.State{}, api.Boot},
		{"all", api.State{Good: true, Set: true}, api.Synced},
		{"not Good", api.State{Set: true}, api.Boot},
		{"not Set", api.State{Good: true}, api.Boot},
		{"D Hops", api.State{Good: true, Set: true, Hops: 2}, api.Synced},
		{"more Hops", api.State{Good: true, Set: true, Hops: 3}, api.Boot},
		{"far more Hops", api.State{Good: true, Set: true, Hops: math.MaxInt}, api.Boot},
		{"Hops below", api.State{Good: true, Set: true, Hops: math.MinInt}, api.Synced},
		{"Hold beats", api.State{Good: true, Set: true, Held: 5}, api.Synced},
		{"more beats", api.State{Good: true, Set: true, Held: 6}, api.Holdover},
		{"far more beats", api.State{Good: true, Set: true, Held: math.MaxInt}, api.Holdover},
		{"Held below", api.State{Good: true, Set: true, Held: math.MinInt}, api.Synced},
		{"D Hops and more beats", api.State{Good: true, Set: true, Hops: 2, Held: 6}, api.Holdover},
		{"more Hops and beats", api.State{Good: true, Set: true, Hops: 3, Held: 6}, api.Boot},
		{"not Good, and more beats", api.State{Set: true, Held: 6}, api.Boot},
		{"not Set, and more beats", api.State{Good: true, Held: 6}, api.Boot},
		{"nothing else that can be", api.State{Good: true, Set: true, Span: api.Span{Lo: 1}, Time: math.MaxInt, Stamp: stamp(math.MinInt, -9), Table: badTables()[0], Life: -9}, api.Synced},
	} {
		if got, by := health.Of(example(), x.s), front(x.s).Health(); got != x.want || by != x.want {
			t.Errorf("%s: Of is %d, Health %d, not %d", x.what, got, by, x.want)
		}
	}
	r := some(212)
	for range 60000 {
		p, s := r.params(), r.state()
		f := health.Front{P: p, S: s}
		if got, by, want := health.Of(p, s), f.Health(), modelOf(p, s); got != want || by != want {
			t.Fatalf("of %+v and %+v Of is %d, Health %d, not %d", p, s, got, by, want)
		}
	}
}

// TestFar is P21.1's Far: of Hold at least, in steps of 4 Rho, and clipped.
func TestFar(t *testing.T) {
	for held, want := range map[int]int{math.MinInt: 540, -1: 540, 0: 540, 5: 540, 6: 544, 7: 548, 1000: 4520, most: most, math.MaxInt: most} {
		if got := health.Far(example(), held); got != want {
			t.Errorf("Far of %d is %d, not %d", held, got, want)
		}
	}
	for _, x := range []struct {
		p          api.Params
		held, want int
	}{
		{api.Params{}, 9, 0},
		{api.Params{Rho: 1, D: -1}, 0, 8},
		{api.Params{Rho: 1, D: -1, Hold: 10}, 3, 48},
		{api.Params{Rho: 1, D: -1, Hold: -10}, -3, -4},
		{api.Params{Rho: 1, D: -1, Hold: -3}, -10, -4},
		{api.Params{Jitter: 1, D: 3}, 5, 12},
		{api.Params{Eps: 1, D: 3}, 5, 8},
		{api.Params{Eps: -1, D: 3}, 5, -8},
		{api.Params{Eps: math.MinInt}, 5, -most},
		{api.Params{Rho: 1, D: -1, Hold: math.MaxInt}, 0, most},
		// Held and Hold are held against one another clipped: 2 Rho times most, and not more, beside a gate of -most.
		{api.Params{Eps: math.MinInt, Rho: 1 << 40}, math.MaxInt, 2 << 41},
	} {
		if got := health.Far(x.p, x.held); got != x.want {
			t.Errorf("of %+v Far of %d is %d, not %d", x.p, x.held, got, x.want)
		}
	}
	r := some(213)
	for range 60000 {
		p, held := r.params(), r.num()
		if got, want := health.Far(p, held), modelFar(p, held); got != want {
			t.Fatalf("of %+v Far of %d is %d, not %d", p, held, got, want)
		}
	}
}

// answers are what a front tells its users.
type answers struct {
	health, now, pulse int
	span               api.Span
	utc                api.Label
	errors             [4]api.Errno
}

func ask(f *health.Front) answers {
	var a answers
	a.health = f.Health()
	a.now, a.errors[0] = f.Now()
	a.span, a.errors[1] = f.Interval()
	a.utc, a.errors[2] = f.UTC()
	a.pulse, a.errors[3] = f.Pulse()
	return a
}

// TestNil is P21.1 of a nil front: nothing is told, and nothing befalls it.
func TestNil(t *testing.T) {
	var f *health.Front
	e := api.ErrNil
	if got := ask(f); got != (answers{errors: [4]api.Errno{e, e, e, e}}) {
		t.Errorf("it tells %+v", got)
	}
	if s, e := f.Stamp(); s != (api.Stamp{}) || e != api.ErrNil {
		t.Errorf("its stamp is %v, %d", s, e)
	}
	f.Listen(stamp(5, 5))
	f.Step(1000, synced(5))
}

// TestUsersOfBoot is P21.1's Now, Interval, UTC and Pulse of all that is Boot: ErrSync goes ahead of a table that isn't good, and of a time that has no label.
func TestUsersOfBoot(t *testing.T) {
	e := api.ErrSync
	for _, change := range []func(*api.State){
		func(s *api.State) { s.Good = false }, func(s *api.State) { s.Set = false }, func(s *api.State) { s.Hops = 3 }, func(s *api.State) { *s = api.State{Time: 5000} },
		func(s *api.State) { s.Hops, s.Held, s.Table = 3, 6, badTables()[0] }, func(s *api.State) { s.Good, s.Time = false, most },
	} {
		s := but(synced(5000), change)
		if got := ask(front(s)); got != (answers{errors: [4]api.Errno{e, e, e, e}}) {
			t.Errorf("%+v tells %+v", s, got)
		}
	}
}

// TestUsers is P21.1's Now, Interval, UTC and Pulse of what is Synced or Holdover: the state's own, as it is.
func TestUsers(t *testing.T) {
	label := func(day, hour, minute, second int) api.Label {
		return api.Label{Year: 1970, Month: 1, Day: day, Hour: hour, Minute: minute, Second: second}
	}
	eve := api.Label{Year: 1969, Month: 12, Day: 31, Hour: 23, Minute: 59, Second: 59}
	more := goodTables()[2]
	for _, x := range []struct {
		what  string
		s     api.State
		label api.Label
		pulse int
		e     api.Errno
	}{
		{"noon", api.State{Time: 43200000, Span: lasting(43200000, 9)}, label(1, 12, 0, 0), 8640, 0},
		{"a second is all but gone", api.State{Time: 43200999}, label(1, 12, 0, 0), 8640, 0},
		{"a pulse is all but gone", api.State{Time: 4999}, label(1, 0, 0, 4), 0, 0},
		{"a pulse begins", api.State{Time: 5000}, label(1, 0, 0, 5), 1, 0},
		{"ahead of 0", api.State{Time: -1}, eve, -1, 0},
		{"a second ahead of it", api.State{Time: -1000}, eve, -1, 0},
		{"a second more", api.State{Time: 86400000, Table: more}, label(1, 23, 59, 60), 17280, 0},
		{"behind it", api.State{Time: 86401000, Table: more}, label(2, 0, 0, 0), 17280, 0},
		{"without a table", api.State{Time: 86400000}, label(2, 0, 0, 0), 17280, 0},
		{"of no table", api.State{Time: 5000, Table: badTables()[0]}, api.Label{}, 1, api.ErrTable},
		{"of no count", api.State{Time: (1<<42 + 1) * 1000}, api.Label{}, (1<<42 + 1) / 5, api.ErrLabel},
		{"of neither", api.State{Time: (1<<42 + 1) * 1000, Table: badTables()[0]}, api.Label{}, (1<<42 + 1) / 5, api.ErrTable},
		{"beyond", api.State{Time: math.MaxInt, Span: api.Span{Lo: math.MaxInt, Hi: math.MinInt}}, api.Label{}, most / 5000, api.ErrLabel},
		{"below", api.State{Time: math.MinInt}, api.Label{}, -most/5000 - 1, api.ErrLabel},
	} {
		for held, is := range map[int]int{0: api.Synced, 5: api.Synced, 6: api.Holdover} {
			s := but(x.s, func(s *api.State) { s.Set, s.Good, s.Hops, s.Held = true, true, 2, held })
			want := answers{is, s.Time, x.pulse, s.Span, x.label, [4]api.Errno{0, 0, x.e, 0}}
			f := front(s)
			if got := ask(f); got != want {
				t.Errorf("%s: %+v, not %+v", x.what, got, want)
			}
			wantState(t, "behind the users' calls", f.S, s)
		}
	}
}

// TestUsersNumbers is P21.1's UTC and Pulse of other seconds and pulses: of such as are below 1, too, which count as 1.
func TestUsersNumbers(t *testing.T) {
	for _, x := range []struct{ second, pulse, time, count, number int }{
		{1, 1, 59, 59, 59}, {0, 0, 59, 59, 59}, {-5, -5, 59, 59, 59}, {math.MinInt, math.MinInt, 59, 59, 59}, {7, 9, 62, 8, 6}, {1 << 40, 1 << 40, 59 << 40, 59, 59},
		{math.MaxInt, math.MaxInt, most, 1, 1}, {most, most, most - 1, 0, 0},
	} {
		p := example()
		p.Second, p.Pulse = x.second, x.pulse
		f := &health.Front{P: p, S: synced(x.time)}
		want := api.Label{Year: 1970, Month: 1, Day: 1, Second: x.count}
		if l, e := f.UTC(); l != want || e != api.OK {
			t.Errorf("of seconds of %d UTC is %v, %d", x.second, l, e)
		}
		if n, e := f.Pulse(); n != x.number || e != api.OK {
			t.Errorf("of pulses of %d Pulse is %d, %d", x.pulse, n, e)
		}
	}
}

// TestStamp is P21.1's Stamp: of whatever health; it is the front's behind that, and nothing else is changed.
func TestStamp(t *testing.T) {
	for _, x := range []struct {
		time      int
		was, want api.Stamp
	}{
		{100, stamp(99, 7), stamp(100, 0)}, {100, stamp(100, 7), stamp(100, 8)}, {100, stamp(101, 7), stamp(101, 8)}, {100, stamp(most, 7), stamp(most, 8)},
		{100, stamp(100, 1<<30), stamp(101, 0)}, {100, stamp(100, -3), stamp(100, 1)}, {math.MaxInt, stamp(5, 5), stamp(most, 0)}, {math.MinInt, stamp(math.MinInt, 5), stamp(-most, 0)},
		{100, stamp(math.MaxInt, 5), stamp(most, 6)},
	} {
		for _, s := range []api.State{{}, synced(0), but(synced(0), func(s *api.State) { s.Held = 6 })} {
			s.Time, s.Stamp, s.Table = x.time, x.was, badTables()[0]
			f := front(s)
			if got, e := f.Stamp(); got != x.want || e != api.OK {
				t.Errorf("at %d, behind %v, Stamp is %v, %d, not %v", x.time, x.was, got, e, x.want)
			}
			wantState(t, "behind Stamp", f.S, but(s, func(s *api.State) { s.Stamp = x.want }))
		}
	}
	f := front(synced(100))
	for num := 1; num < 9; num++ {
		if got, e := f.Stamp(); got != stamp(100, num) || e != api.OK {
			t.Errorf("Stamp number %d is %v, %d", num, got, e)
		}
	}
}

// TestListen is P21.1's Listen: stamps up to the most, and such as are passed over, whatever the health is.
func TestListen(t *testing.T) {
	for _, x := range []struct {
		what             string
		hi, held         int
		was, heard, want api.Stamp
	}{
		{"the message's", 110, 0, stamp(90, 5), stamp(105, 3), stamp(105, 4)},
		{"the one it had", 110, 0, stamp(120, 5), stamp(105, 3), stamp(120, 6)},
		{"that of now", 110, 0, stamp(90, 5), stamp(95, 3), stamp(100, 1)},
		{"at the most", 110, 0, stamp(90, 5), stamp(650, 3), stamp(650, 4)},
		{"above it", 110, 0, stamp(90, 5), stamp(651, 3), stamp(100, 0)},
		{"above it, behind a late one", 110, 0, stamp(100, 5), stamp(651, 3), stamp(100, 6)},
		{"one above Hold", 110, 6, stamp(90, 5), stamp(654, 3), stamp(654, 4)},
		{"one above Hold, and above", 110, 6, stamp(90, 5), stamp(655, 3), stamp(100, 0)},
		{"Held below", 110, -9, stamp(90, 5), stamp(650, 3), stamp(650, 4)},
		{"Held below, and above", 110, -9, stamp(90, 5), stamp(651, 3), stamp(100, 0)},
		{"a span far away", -2000, 0, stamp(90, 5), stamp(-1460, 3), stamp(100, 1)},
		{"a span far away, and above", -2000, 0, stamp(90, 5), stamp(-1459, 3), stamp(100, 0)},
		{"no Num", 110, 0, stamp(90, 5), stamp(105, -1), stamp(100, 0)},
		{"no Num, above", 110, 0, stamp(90, 5), stamp(105, 1<<30+1), stamp(100, 0)},
		{"no Time", most, 0, stamp(90, 5), stamp(most+1, 3), stamp(100, 0)},
		{"the greatest Time", most, 0, stamp(90, 5), stamp(most, 3), stamp(most, 4)},
		{"the greatest Time, of a span beyond", math.MaxInt, 0, stamp(90, 5), stamp(most, 3), stamp(most, 4)},
		{"all but the greatest Time", most - 600, 0, stamp(90, 5), stamp(most-59, 3), stamp(100, 0)},
		{"a span below", math.MinInt, 0, stamp(90, 5), stamp(-most+540, 3), stamp(100, 1)},
	} {
		for _, s := range []api.State{{}, synced(0)} {
			s.Time, s.Stamp, s.Span, s.Held = 100, x.was, api.Span{Lo: 90, Hi: x.hi}, x.held
			f := front(s)
			f.Listen(x.heard)
			wantState(t, x.what, f.S, but(s, func(s *api.State) { s.Stamp = x.want }))
		}
	}
	r := some(214)
	for range 60000 {
		p, s, heard := r.params(), r.state(), stamp(r.num(), r.num())
		if r.yes() {
			p = example()
			s, _, _ = r.beat(p)
			heard = stamp(s.Span.Hi+modelFar(p, s.Held)+r.Intn(3)-1, r.Intn(3))
		}
		f := &health.Front{P: p, S: s}
		f.Listen(heard)
		wantState(t, "behind Listen", f.S, but(s, func(s *api.State) { s.Stamp = modelListen(p, *s, heard) }))
	}
}

// TestClock is P21.1's Step of clocks, worked out by hand: one that is slewed, and one that jumps, since it was Boot, or is too far off.
func TestClock(t *testing.T) {
	type state = api.State
	same := func(*state) {}
	// The clock is at 1000, and goes on to 2000, if nothing else is said.
	for _, x := range []struct {
		what  string
		of    func(*state)
		ticks int
		span  api.Span
		held  int
		want  int
	}{
		{"on time", same, 1000, lasting(2000, 10), 0, 2000},
		{"a little late", same, 1000, lasting(2019, 10), 0, 2019},
		{"late by Mu", same, 1000, lasting(2020, 10), 0, 2020},
		{"later", same, 1000, lasting(2021, 10), 0, 2020},
		{"early by Mu", same, 1000, lasting(1980, 10), 0, 1980},
		{"earlier", same, 1000, lasting(1979, 10), 0, 1980},
		{"a middle that is half", same, 1000, api.Span{Lo: 2000, Hi: 2005}, 0, 2002},
		{"a middle that is half, below 0", same, -1000, api.Span{Lo: -8, Hi: 3}, 0, -3},
		{"late by Far", same, 1000, lasting(2540, 10), 0, 2020},
		{"later than by Far", same, 1000, lasting(2541, 10), 0, 2541},
		{"early by Far", same, 1000, lasting(1460, 10), 0, 1980},
		{"earlier than by Far", same, 1000, lasting(1459, 10), 0, 1459},
		{"by Far of Hold", same, 1000, lasting(2540, 10), 5, 2020},
		{"by Far of a beat more", same, 1000, lasting(2544, 10), 6, 2020},
		{"further", same, 1000, lasting(2545, 10), 6, 2545},
		{"by Far of Held below", same, 1000, lasting(2540, 10), -7, 2020},
		{"further than by Far of Held below", same, 1000, lasting(2541, 10), -7, 2541},
		{"its own Held has no say", func(s *state) { s.Held = 100 }, 1000, lasting(2541, 10), 0, 2541},
		{"Held is that which is told", same, 1000, lasting(2000+1<<42, 10), 1 << 40, 2020},
		{"Holdover doesn't jump", func(s *state) { s.Held = 100 }, 1000, lasting(2021, 10), 0, 2020},
		{"not Good", func(s *state) { s.Good = false }, 1000, lasting(2021, 10), 0, 2021},
		{"not Set", func(s *state) { s.Set = false }, 1000, lasting(2021, 10), 0, 2021},
		{"of D Hops", func(s *state) { s.Hops = 2 }, 1000, lasting(2021, 10), 0, 2020},
		{"of more Hops", func(s *state) { s.Hops = 3 }, 1000, lasting(2021, 10), 0, 2021},
		{"Boot and back", func(s *state) { s.Hops = 3 }, 1000, lasting(-7, 10), 0, -7},
		{"other ticks", same, 700, lasting(1705, 10), 0, 1705},
		{"no ticks", same, 0, lasting(1100, 10), 0, 1020},
		{"an empty span, as it is told", same, 1000, api.Span{Lo: 3000, Hi: 1980}, 0, 2020},
		{"an empty span, far away", same, 1000, api.Span{Lo: 9, Hi: 1}, 0, 5},
		{"a span beyond", same, 1000, api.Span{Lo: math.MaxInt, Hi: math.MaxInt}, 0, most},
		{"all", same, 1000, api.Span{Lo: math.MinInt, Hi: math.MaxInt}, 0, 0},
		{"ticks beyond", same, math.MaxInt, lasting(most-30, 10), 0, most - 20},
		{"a Time beyond", func(s *state) { s.Time = math.MaxInt }, -1000, lasting(most-1000, 10), 0, most - 1000},
	} {
		f := front(but(synced(1000), x.of))
		f.Step(x.ticks, api.State{Span: x.span, Held: x.held, Good: true})
		if f.S.Time != x.want || !f.S.Set {
			t.Errorf("%s: Time is %d, Set %v, not %d", x.what, f.S.Time, f.S.Set, x.want)
		}
	}
}

// TestNewState is P21.1's Step: Span, Held, Hops, Good and Table are the new ones, made sane; what tells time, stamps and lives aren't.
func TestNewState(t *testing.T) {
	well := but(synced(1000), func(s *api.State) { s.Table, s.Held, s.Hops, s.Life = goodTables()[3], 4, 1, 6 })
	for _, x := range []struct{ next, want api.State }{
		{api.State{Span: lasting(2000, 10), Good: true}, api.State{Span: lasting(2000, 10), Good: true}},
		{api.State{Span: lasting(2000, 10)}, api.State{Span: lasting(2000, 10)}},
		{api.State{Span: lasting(2000, 10), Good: true, Held: 9, Hops: 2, Table: goodTables()[2]}, api.State{Span: lasting(2000, 10), Good: true, Held: 9, Hops: 2, Table: goodTables()[2]}},
		{api.State{Span: lasting(2000, 10), Good: true, Held: -9, Hops: 7, Table: badTables()[2]}, api.State{Span: lasting(2000, 10), Good: true, Hops: 3}},
		{api.State{Span: lasting(2000, 10), Good: true, Held: math.MaxInt, Hops: -7}, api.State{Span: lasting(2000, 10), Good: true, Held: 1 << 30}},
		{api.State{Span: api.Span{Lo: 2010, Hi: 1990}, Good: true}, api.State{Span: api.Span{Lo: -most, Hi: most}}},
		{api.State{Span: lasting(2000, 10), Good: true, Time: 77, Set: false, Stamp: stamp(2222, 7), Life: 44}, api.State{Span: lasting(2000, 10), Good: true}},
		{api.State{Span: lasting(2000, 10), Good: true, Time: 77, Set: true, Stamp: stamp(2222, -7), Life: -44}, api.State{Span: lasting(2000, 10), Good: true}},
	} {
		f := front(well)
		f.Step(1000, x.next)
		wantState(t, "behind Step", f.S, but(x.want, func(s *api.State) { s.Time, s.Set, s.Stamp, s.Life = 2000, true, stamp(2000, 0), 6 }))
		if f.P != example() {
			t.Fatalf("the fabric's numbers are %+v", f.P)
		}
	}
}

// TestLives is P21.1's Step of stamps and lives: when stamps begin anew, and that a life is one more at most.
func TestLives(t *testing.T) {
	type state = api.State
	// The clock is at 1000, and brought to 2000; the new span is up to 2010, so the most is 2550.
	for _, x := range []struct {
		what  string
		of    func(*state)
		ticks int
		next  api.State
		stamp api.Stamp
		life  int
	}{
		{"all goes on", func(*state) {}, 1000, synced(2000), stamp(2000, 0), 0},
		{"a stamp of that time", func(s *state) { s.Stamp = stamp(2000, 4) }, 1000, synced(2000), stamp(2000, 5), 0},
		{"a stamp ahead", func(s *state) { s.Stamp = stamp(2001, 4) }, 1000, synced(2000), stamp(2001, 5), 0},
		{"a stamp at the most", func(s *state) { s.Stamp = stamp(2550, 4) }, 1000, synced(2000), stamp(2550, 5), 0},
		{"a stamp above it", func(s *state) { s.Stamp = stamp(2551, 4) }, 1000, synced(2000), stamp(2000, 1), 1},
		{"of the Held that is new", func(s *state) { s.Stamp = stamp(2558, 4) }, 1000, but(synced(2000), func(s *state) { s.Held = 7 }), stamp(2558, 5), 0},
		{"above that of it", func(s *state) { s.Stamp = stamp(2559, 4) }, 1000, but(synced(2000), func(s *state) { s.Held = 7 }), stamp(2000, 1), 1},
		{"its own Held has no say", func(s *state) { s.Stamp, s.Held = stamp(2551, 4), 100 }, 1000, synced(2000), stamp(2000, 1), 1},
		{"its own Span has none", func(s *state) { s.Stamp, s.Span.Hi = stamp(2551, 4), 9999 }, 1000, synced(2000), stamp(2000, 1), 1},
		{"Held as Sane has it", func(s *state) { s.Stamp = stamp(2011+2*(260+2<<30), 4) }, 1000, but(synced(2000), func(s *state) { s.Held = 1 << 40 }), stamp(2000, 1), 1},
		{"just that Held", func(s *state) { s.Stamp = stamp(2010+2*(260+2<<30), 4) }, 1000, but(synced(2000), func(s *state) { s.Held = 1 << 40 }), stamp(2010+2*(260+2<<30), 5), 0},
		{"Span as Sane has it", func(s *state) { s.Stamp = stamp(most, 4) }, 1000, state{Span: api.Span{Lo: 2001, Hi: 1999}}, stamp(most, 5), 0},
		{"no Num", func(s *state) { s.Stamp = stamp(900, -1) }, 1000, synced(2000), stamp(2000, 1), 1},
		{"no Num, above", func(s *state) { s.Stamp = stamp(900, 1<<30+1) }, 1000, synced(2000), stamp(2000, 1), 1},
		{"no Time", func(s *state) { s.Stamp = stamp(math.MinInt, 0) }, 1000, synced(2000), stamp(2000, 1), 1},
		{"the greatest Num", func(s *state) { s.Stamp = stamp(2000, 1<<30) }, 1000, synced(2000), stamp(2001, 0), 0},
		{"a jump back", func(*state) {}, 1000, synced(999), stamp(1000, 1), 1},
		{"a jump to where it was", func(*state) {}, 1000, synced(1000), stamp(1000, 1), 0},
		{"a jump ahead", func(*state) {}, 1000, synced(9000), stamp(9000, 0), 0},
		{"a jump back, from Boot", func(s *state) { s.Set = false }, 1000, synced(999), stamp(1000, 1), 1},
		{"a jump back, stamps anew", func(s *state) { s.Life = 8 }, 1000, synced(-999), stamp(-999, 1), 9},
		{"slewed back", func(*state) {}, 10, synced(900), stamp(1000, 1), 1},
		{"slewed to where it was", func(*state) {}, 20, synced(900), stamp(1000, 1), 0},
		{"a Time beyond", func(s *state) { s.Time, s.Stamp = most+1, stamp(most, 4) }, 0, state{Span: lasting(most, 0)}, stamp(most, 5), 1},
		{"a Time at the end", func(s *state) { s.Time, s.Stamp = most, stamp(most, 4) }, 0, state{Span: lasting(most, 0)}, stamp(most, 5), 0},
		{"lives stay", func(s *state) { s.Life = 8 }, 1000, synced(2000), stamp(2000, 0), 8},
		{"lives below", func(s *state) { s.Life = -8 }, 1000, synced(2000), stamp(2000, 0), 0},
		{"lives below, and one more", func(s *state) { s.Life = -8 }, 1000, synced(999), stamp(1000, 1), 1},
		{"the least lives, and one more", func(s *state) { s.Life = math.MinInt }, 1000, synced(999), stamp(1000, 1), 1},
		{"all but the most lives, and one more", func(s *state) { s.Life = most - 1 }, 1000, synced(999), stamp(1000, 1), most},
		{"the most lives, and one more", func(s *state) { s.Life = most }, 1000, synced(999), stamp(1000, 1), most},
		{"lives above", func(s *state) { s.Life = math.MaxInt }, 1000, synced(2000), stamp(2000, 0), most},
		{"lives above, and one more", func(s *state) { s.Life = math.MaxInt }, 1000, synced(999), stamp(1000, 1), most},
	} {
		f := front(but(synced(1000), x.of))
		f.Step(x.ticks, x.next)
		if f.S.Stamp != x.stamp || f.S.Life != x.life {
			t.Errorf("%s: Stamp is %v, Life %d, not %v, %d", x.what, f.S.Stamp, f.S.Life, x.stamp, x.life)
		}
	}
}

// TestStepOfAll is P21.1's Step of all numbers and states, and of such as are near to where bounds are; and P21.2: a state behind it is sane.
func TestStepOfAll(t *testing.T) {
	r := some(215)
	for range 100000 {
		p := r.params()
		s, ticks, next := r.state(), r.num(), r.state()
		if r.yes() {
			p = example()
			s, ticks, next = r.beat(p)
		}
		f := &health.Front{P: p, S: s}
		f.Step(ticks, next)
		if want := modelStep(p, s, ticks, next); !same(f.S, want) {
			t.Fatalf("of %+v Step(%d, %+v) makes of\n%+v\n%+v, not\n%+v", p, ticks, next, s, f.S, want)
		}
		wantState(t, "Sane behind Step", health.Sane(p, f.S), f.S)
	}
}

// TestOtherNumbers is P21.1: of a fabric's numbers N, F, Beat and Delay have no say.
func TestOtherNumbers(t *testing.T) {
	r := some(216)
	for range 5000 {
		p := example()
		s, ticks, next := r.beat(p)
		f := front(s)
		p.N, p.F, p.Beat, p.Delay = r.num(), r.num(), r.num(), r.num()
		g := &health.Front{P: p, S: s}
		for _, x := range []*health.Front{f, g} {
			x.Step(ticks, next)
			x.Listen(stamp(next.Span.Hi, 3))
		}
		wantState(t, "of other numbers", g.S, f.S)
		if a, b := ask(f), ask(g); a != b {
			t.Fatalf("%+v and %+v", a, b)
		}
	}
}

// around are the ends of what is at most w from a middle, the middle, and one at random.
func (r someone) around(middle, w int) []int {
	return []int{middle - w, middle, middle + w, middle - w + r.Intn(2*w+1)}
}

// spans are such as have a time in them: at either end, in the middle, and anywhere; of all widths up to one.
func (r someone) spans(time, wide int) []api.Span {
	var list []api.Span
	for _, w := range []int{0, min(1, wide), wide / 2, wide, r.Intn(wide + 1)} {
		for _, lo := range []int{time, time - w/2, time - w, time - r.Intn(w+1)} {
			list = append(list, api.Span{Lo: lo, Hi: lo + w})
		}
	}
	return list
}

// within is whether a time is at most w from another one.
func within(a, b, w int) bool { return slew.Clock{Time: a}.Off(b) <= w }

// TestNear is P21.3: a clock that was at most half of Far from the time is so behind Step, and was slewed; one that was Boot is so wherever it was.
func TestNear(t *testing.T) {
	r := some(217)
	for _, p := range fabrics(t) {
		for _, held := range []int{p.Hold, r.Intn(p.Hold + 1), -3} {
			w := health.Far(p, held) / 2
			if w != limit.Width(p, p.Hold, p.D) {
				t.Fatalf("half of Far of %d is %d", held, w)
			}
			now := []int{0, -12345, 1 << 55, -1 << 55}[r.Intn(4)]
			for _, span := range r.spans(now+p.Beat, w) {
				next := api.State{Span: span, Held: held, Good: true}
				for _, ticks := range r.around(p.Beat, p.Rho) {
					for _, time := range r.around(now, w) {
						f := health.Front{P: p, S: synced(time)}
						f.Step(ticks, next)
						if !within(f.S.Time, now+p.Beat, w) || !within(f.S.Time, time+ticks, p.Mu) {
							t.Fatalf("of %+v a clock of %d and %d ticks, with %v, goes to %d: the time is %d", p, time, ticks, span, f.S.Time, now+p.Beat)
						}
					}
					f := health.Front{P: p, S: but(synced(r.num()), func(s *api.State) { s.Good = false })}
					f.Step(ticks, next)
					if !within(f.S.Time, now+p.Beat, w) {
						t.Fatalf("of %+v a clock that was Boot, with %v, goes to %d: the time is %d", p, span, f.S.Time, now+p.Beat)
					}
				}
			}
		}
	}
}

// TestNearForMany is P21.3, beat for beat, of a clock that always errs to one side, and spans that lie there, too: it never jumps, never loses a life, and is Synced.
func TestNearForMany(t *testing.T) {
	for _, p := range fabrics(t) {
		w := limit.Width(p, p.Hold, p.D)
		for _, side := range []int{-1, 1} {
			now := 1 << 50
			f := health.Front{P: p, S: but(synced(now+side*w), func(s *api.State) { s.Stamp.Time = now })}
			for range 60 {
				now += p.Beat
				was := f.S.Time
				f.Step(p.Beat+side*p.Rho, api.State{Span: lasting(now+side*(w/2), w/2), Good: true})
				if !within(f.S.Time, now, w) || !within(f.S.Time, was+p.Beat+side*p.Rho, p.Mu) || f.S.Life != 0 || f.Health() != api.Synced {
					t.Fatalf("of %+v, at %d: %+v", p, now, f.S)
				}
			}
		}
	}
}

// rises holds P21.4 of a front: its stamp is later than it was, or it has one life more. Of the last stamp that there is, of a time beyond it, and of a life at the end it says nothing: those are clipped.
func rises(t *testing.T, what string, was, is api.State) {
	t.Helper()
	if was.Stamp.Time > most || was.Stamp.Time == most && was.Stamp.Num >= 1<<30 || was.Life >= most {
		return
	}
	if !ahead(was.Stamp, is.Stamp) && is.Life != max(was.Life, 0)+1 {
		t.Fatalf("behind %s the stamp of\n%+v isn't later in\n%+v", what, was, is)
	}
}

// TestLater is P21.4, of all numbers and states, and of such as are near to where bounds are.
func TestLater(t *testing.T) {
	r := some(218)
	for range 60000 {
		p := r.params()
		s, ticks, next := r.state(), r.num(), r.state()
		if r.yes() {
			p = example()
			s, ticks, next = r.beat(p)
		}
		f := &health.Front{P: p, S: s}
		f.Step(ticks, next)
		rises(t, "Step", s, f.S)
		was := f.S
		f.Stamp()
		rises(t, "Stamp", was, f.S)
		g := &health.Front{P: p, S: s}
		g.Stamp()
		rises(t, "Stamp", s, g.S)
		if f.S.Life != was.Life || g.S.Life != s.Life {
			t.Fatalf("Stamp makes another life of %+v", was)
		}
	}
}

// TestLaterForMany is P21.4, call for call: stamps of one life rise whatever comes between them.
func TestLaterForMany(t *testing.T) {
	r := some(219)
	for range 200 {
		f := front(api.State{})
		for range 60 {
			was := f.S
			switch r.Intn(3) {
			case 0:
				f.Stamp()
			case 1:
				f.Listen(stamp(f.S.Span.Hi+r.Intn(2000)-1000, r.Intn(9)-1))
			default:
				f.Step(1000, api.State{Span: lasting(f.S.Time+1000+r.Intn(3000)-1500, 100), Good: r.Intn(9) > 0, Held: r.Intn(9)})
			}
			rises(t, "a call", was, f.S)
		}
	}
}

// roomy is a table with spare room.
func roomy() []api.Leap {
	return append(make([]api.Leap, 0, 4), api.Leap{At: 86401, Off: 1}, api.Leap{At: 864000, Off: 0})
}

// wantRoomy holds a table to what roomy made it, spare room included.
func wantRoomy(t *testing.T, list []api.Leap) {
	t.Helper()
	if !slices.Equal(list[:4], roomy()[:4]) {
		t.Errorf("the table is %v", list[:4])
	}
}

// scribble writes into all of a table, and its spare room.
func scribble(list []api.Leap) {
	list = list[:cap(list)]
	for i := range list {
		list[i] = api.Leap{At: -7, Off: -7}
	}
}

// TestHandedIn is P21.5: tables that are handed in stay as they were, and what is written into them later isn't seen; nor what is written into a state's table in another one.
func TestHandedIn(t *testing.T) {
	table := roomy()
	s := but(synced(2000), func(s *api.State) { s.Table = table })
	one, two := health.Sane(example(), s), health.Sane(example(), s)
	f, g := front(synced(1000)), front(synced(1000))
	f.Step(1000, s)
	g.Step(1000, s)
	wantRoomy(t, table)
	scribble(table)
	scribble(one.Table)
	scribble(f.S.Table)
	want := roomy()
	if !slices.Equal(two.Table, want) || !slices.Equal(g.S.Table, want) {
		t.Errorf("the tables are %v and %v", two.Table, g.S.Table)
	}
	if again := health.Sane(example(), two); !slices.Equal(again.Table, want) {
		t.Errorf("the table is %v", again.Table)
	} else {
		scribble(again.Table)
	}
	if !slices.Equal(two.Table, want) {
		t.Errorf("the table is %v, once what Sane answers of it is written into", two.Table)
	}
}

// TestOwnState is P21.5: a front's own state may be handed in, and one front knows nothing of another one.
func TestOwnState(t *testing.T) {
	table := roomy()
	f := front(but(synced(1000), func(s *api.State) { s.Table = table }))
	g := front(f.S)
	next := f.S
	next.Span = lasting(2000, 10)
	ask(f)
	health.Of(f.P, f.S)
	f.Stamp()
	f.Listen(stamp(1005, 3))
	wantRoomy(t, table)
	f.Step(1000, next)
	wantRoomy(t, table)
	scribble(f.S.Table)
	wantState(t, "another one", g.S, but(synced(1000), func(s *api.State) { s.Table = roomy() }))
	if l, e := g.UTC(); e != api.OK || l != (api.Label{Year: 1970, Month: 1, Day: 1, Second: 1}) {
		t.Errorf("UTC is %v, %d", l, e)
	}
}

// TestAgain is the whole document's rule 4: of the same state the same is answered, and users' calls change nothing.
func TestAgain(t *testing.T) {
	r := some(2110)
	for range 3000 {
		f := &health.Front{P: r.params(), S: r.state()}
		was := *f
		was.S.Table = slices.Clone(was.S.Table)
		if a, b := ask(f), ask(f); a != b || !reflect.DeepEqual(f.P, was.P) || !same(f.S, was.S) {
			t.Fatalf("%+v tells %+v, and %+v, and is %+v", was, a, b, *f)
		}
	}
}
