package hlc_test

import (
	"cmp"
	"math"
	"math/big"
	"math/rand"
	"slices"
	"testing"

	"clepsydra/api"
	"clepsydra/hlc"
)

// full is the greatest Num that can be.
const full = 1 << 30

func stamp(time, num int) api.Stamp { return api.Stamp{Time: time, Num: num} }

func clock(time, num int) hlc.Clock { return hlc.Clock{Stamp: stamp(time, num)} }

// times are ordinary ones, and those around where clipping begins and where numbers end.
func times() []int {
	return []int{math.MinInt, -api.Most - 1, -api.Most, -api.Most + 1, -1, 0, 1, 5, api.Most - 1, api.Most, api.Most + 1, math.MaxInt}
}

// nums are ordinary ones, and those around 0, around the greatest, and where numbers end.
func nums() []int {
	return []int{math.MinInt, -2, -1, 0, 1, 2, full - 1, full, full + 1, math.MaxInt}
}

// stamps are all of these times with all of these numbers: such as can be, and such as can't.
func stamps() []api.Stamp {
	var list []api.Stamp
	for _, time := range times() {
		for _, num := range nums() {
			list = append(list, stamp(time, num))
		}
	}
	return list
}

// clip is the tests' own.
func clip(x int) int { return max(-api.Most, min(api.Most, x)) }

// place is a number by which stamps stand in order: there is room for all Nums between one Time and the next one.
func place(s api.Stamp) *big.Int {
	p := new(big.Int).Lsh(big.NewInt(int64(s.Time)), 70)
	return p.Add(p, big.NewInt(int64(s.Num)))
}

// modelRight goes by what a stamp that can be must not be.
func modelRight(s api.Stamp) bool {
	switch {
	case s.Time < -api.Most, s.Time > api.Most, s.Num < 0, s.Num > full:
		return false
	}
	return true
}

// modelNext goes by the three kinds of Num.
func modelNext(s api.Stamp) api.Stamp {
	switch {
	case s.Num < 0:
		return stamp(clip(s.Time), 1)
	case s.Num < full:
		return stamp(clip(s.Time), s.Num+1)
	}
	return stamp(clip(clip(s.Time)+1), 0)
}

func modelTick(c api.Stamp, now int) api.Stamp {
	if clip(now) > c.Time {
		return stamp(clip(now), 0)
	}
	return modelNext(c)
}

// modelHear sorts the three stamps, and takes the last one.
func modelHear(c api.Stamp, now int, s api.Stamp, most int) (api.Stamp, bool) {
	if !modelRight(s) || s.Time > most {
		return modelTick(c, now), false
	}
	three := []api.Stamp{c, s, stamp(clip(now), -1)}
	slices.SortFunc(three, func(a, b api.Stamp) int {
		return cmp.Or(cmp.Compare(a.Time, b.Time), cmp.Compare(a.Num, b.Num))
	})
	return modelNext(three[2]), true
}

func modelMend(c api.Stamp, now, most int) (api.Stamp, bool) {
	if modelRight(c) && c.Time <= most {
		return c, false
	}
	return stamp(clip(now), 0), true
}

// TestExamples are the chapter's.
func TestExamples(t *testing.T) {
	c := clock(5, 0)
	if got := c.Tick(9); got != clock(9, 0) {
		t.Errorf("Tick(9) is %v", got)
	}
	if got := c.Tick(5); got != clock(5, 1) {
		t.Errorf("Tick(5) is %v", got)
	}
	if got, ok := c.Hear(7, stamp(9, 3), 20); got != clock(9, 4) || !ok {
		t.Errorf("Hear(7, {9, 3}, 20) is %v, %v", got, ok)
	}
	if got, ok := c.Hear(7, stamp(30, 0), 20); got != clock(7, 0) || ok {
		t.Errorf("Hear(7, {30, 0}, 20) is %v, %v", got, ok)
	}
}

// TestLessByHand is P20.1's Less of stamps whose order is written down: each is ahead of all behind it, and of no other one.
func TestLessByHand(t *testing.T) {
	row := []api.Stamp{stamp(math.MinInt, math.MaxInt), stamp(-api.Most-1, 0), stamp(-api.Most, -1), stamp(-api.Most, 0),
		stamp(-7, 9), stamp(-3, 4), stamp(-3, 5), stamp(0, -1), stamp(0, 0), stamp(0, 1), stamp(1, -1), stamp(1, 9), stamp(2, 0), stamp(2, 8),
		stamp(api.Most, 0), stamp(api.Most, full), stamp(api.Most, full+1), stamp(api.Most+1, 0), stamp(math.MaxInt, math.MinInt)}
	for i, a := range row {
		for j, b := range row {
			if got := hlc.Less(a, b); got != (i < j) {
				t.Errorf("Less(%v, %v) is %v", a, b, got)
			}
		}
	}
}

// TestLess is P20.1's Less of all kinds of stamps, against numbers that stand in their order.
func TestLess(t *testing.T) {
	for _, a := range stamps() {
		for _, b := range stamps() {
			if got, want := hlc.Less(a, b), place(a).Cmp(place(b)) < 0; got != want {
				t.Fatalf("Less(%v, %v) is %v", a, b, got)
			}
		}
	}
}

// TestRight is P20.1's Right: both ends of both numbers, and what is beyond each.
func TestRight(t *testing.T) {
	for _, x := range []struct {
		s    api.Stamp
		want bool
	}{
		{api.Stamp{}, true}, {stamp(5, 3), true}, {stamp(-5, 3), true}, {stamp(1<<60, 1<<20), true},
		{stamp(api.Most, 0), true}, {stamp(-api.Most, 0), true}, {stamp(api.Most, full), true}, {stamp(-api.Most, full), true},
		{stamp(api.Most+1, 0), false}, {stamp(-api.Most-1, 0), false}, {stamp(math.MaxInt, 0), false}, {stamp(math.MinInt, 0), false},
		{stamp(0, full), true}, {stamp(0, full+1), false}, {stamp(0, math.MaxInt), false},
		{stamp(0, -1), false}, {stamp(0, -full), false}, {stamp(0, math.MinInt), false},
		{stamp(math.MaxInt, -1), false}, {stamp(math.MinInt, math.MinInt), false},
	} {
		if got := hlc.Right(x.s); got != x.want {
			t.Errorf("Right(%v) is %v", x.s, got)
		}
	}
	for _, s := range stamps() {
		if got := hlc.Right(s); got != modelRight(s) {
			t.Errorf("Right(%v) is %v", s, got)
		}
	}
}

// TestNext is P20.1's Next: a Num one above, 1 behind those below 0, and a Time one above behind the greatest.
func TestNext(t *testing.T) {
	for _, x := range []struct{ s, want api.Stamp }{
		{stamp(0, 0), stamp(0, 1)}, {stamp(5, 3), stamp(5, 4)}, {stamp(-5, 3), stamp(-5, 4)},
		{stamp(5, -1), stamp(5, 1)}, {stamp(5, -2), stamp(5, 1)}, {stamp(5, math.MinInt), stamp(5, 1)},
		{stamp(5, full-2), stamp(5, full-1)}, {stamp(5, full-1), stamp(5, full)},
		{stamp(5, full), stamp(6, 0)}, {stamp(-1, full), stamp(0, 0)}, {stamp(5, full+1), stamp(6, 0)}, {stamp(5, math.MaxInt), stamp(6, 0)},
		{stamp(api.Most, 7), stamp(api.Most, 8)}, {stamp(api.Most+1, 7), stamp(api.Most, 8)}, {stamp(math.MaxInt, -1), stamp(api.Most, 1)},
		{stamp(-api.Most, 7), stamp(-api.Most, 8)}, {stamp(-api.Most-1, 7), stamp(-api.Most, 8)}, {stamp(math.MinInt, -1), stamp(-api.Most, 1)},
		{stamp(api.Most-1, full), stamp(api.Most, 0)}, {stamp(api.Most, full), stamp(api.Most, 0)}, {stamp(math.MaxInt, math.MaxInt), stamp(api.Most, 0)},
		{stamp(-api.Most, full), stamp(-api.Most+1, 0)}, {stamp(-api.Most-9, full), stamp(-api.Most+1, 0)}, {stamp(math.MinInt, math.MaxInt), stamp(-api.Most+1, 0)},
	} {
		if got := hlc.Next(x.s); got != x.want {
			t.Errorf("Next(%v) is %v, not %v", x.s, got, x.want)
		}
	}
	for _, s := range stamps() {
		if got, want := hlc.Next(s), modelNext(s); got != want {
			t.Errorf("Next(%v) is %v, not %v", s, got, want)
		}
	}
}

// TestTick is P20.1's Tick: a time that is above the clock's, the same, below, and clipped.
func TestTick(t *testing.T) {
	for _, x := range []struct {
		c    hlc.Clock
		now  int
		want hlc.Clock
	}{
		{hlc.Clock{}, 0, clock(0, 1)}, {hlc.Clock{}, 1, clock(1, 0)}, {hlc.Clock{}, -1, clock(0, 1)},
		{clock(5, 7), 6, clock(6, 0)}, {clock(5, 7), 5, clock(5, 8)}, {clock(5, 7), 4, clock(5, 8)}, {clock(-5, 7), -4, clock(-4, 0)},
		{clock(5, full), 5, clock(6, 0)}, {clock(5, full), 6, clock(6, 0)}, {clock(5, full), 7, clock(7, 0)}, {clock(5, -4), 5, clock(5, 1)},
		{clock(5, 7), math.MaxInt, clock(api.Most, 0)}, {clock(5, 7), math.MinInt, clock(5, 8)},
		{clock(api.Most, 7), math.MaxInt, clock(api.Most, 8)}, {clock(api.Most+2, 7), math.MaxInt, clock(api.Most, 8)},
		{clock(api.Most, full), math.MaxInt, clock(api.Most, 0)},
		{clock(-api.Most, 7), math.MinInt, clock(-api.Most, 8)}, {clock(-api.Most-1, 7), math.MinInt, clock(-api.Most, 0)},
	} {
		if got := x.c.Tick(x.now); got != x.want {
			t.Errorf("%v.Tick(%d) is %v, not %v", x.c, x.now, got, x.want)
		}
	}
	for _, c := range stamps() {
		for _, now := range times() {
			k := hlc.Clock{Stamp: c}
			if got, want := k.Tick(now), modelTick(c, now); got.Stamp != want {
				t.Fatalf("%v.Tick(%d) is %v, not %v", c, now, got, want)
			}
		}
	}
}

// TestHearByHand is P20.1's Hear: each of the three stamps as the latest one, and such as are passed over.
func TestHearByHand(t *testing.T) {
	for _, x := range []struct {
		c    hlc.Clock
		now  int
		s    api.Stamp
		most int
		want hlc.Clock
		ok   bool
	}{
		// The message's.
		{clock(5, 2), 7, stamp(9, 3), 20, clock(9, 4), true}, {clock(5, 2), 5, stamp(5, 3), 20, clock(5, 4), true}, {clock(5, 2), 7, stamp(7, 0), 20, clock(7, 1), true},
		{clock(5, 2), 7, stamp(9, full), 20, clock(10, 0), true},
		// The clock's.
		{clock(5, 2), 5, stamp(5, 1), 20, clock(5, 3), true}, {clock(5, 2), 5, stamp(5, 2), 20, clock(5, 3), true}, {clock(5, 2), 1, stamp(4, 9), 20, clock(5, 3), true},
		{clock(5, 0), 5, stamp(4, 9), 20, clock(5, 1), true}, {clock(30, 2), 1, stamp(4, 9), 20, clock(30, 3), true}, {clock(5, full), 1, stamp(4, 9), 20, clock(6, 0), true},
		{clock(math.MaxInt, 2), 1, stamp(4, 9), 20, clock(api.Most, 3), true}, {clock(5, math.MaxInt), 5, stamp(5, full), 20, clock(6, 0), true},
		// That of now: its Num is 1, not 0.
		{clock(5, 2), 7, stamp(6, 3), 20, clock(7, 1), true}, {clock(5, -9), 5, stamp(4, 3), 20, clock(5, 1), true}, {clock(5, 2), 25, stamp(6, 3), 20, clock(25, 1), true},
		{clock(5, 2), math.MaxInt, stamp(6, 3), 20, clock(api.Most, 1), true}, {clock(math.MinInt, 2), math.MinInt, stamp(-api.Most, 0), 20, clock(-api.Most, 1), true},
		// A Time at the most, and one above it.
		{clock(5, 2), 7, stamp(20, 3), 20, clock(20, 4), true}, {clock(5, 2), 7, stamp(21, 3), 20, clock(7, 0), false}, {clock(5, 2), 4, stamp(21, 3), 20, clock(5, 3), false},
		{clock(5, 2), 7, stamp(api.Most, 3), math.MaxInt, clock(api.Most, 4), true}, {clock(5, 2), 7, stamp(-api.Most, 3), math.MinInt, clock(7, 0), false},
		{clock(5, 2), 7, stamp(6, 3), -20, clock(7, 0), false}, {clock(5, 2), 7, stamp(api.Most, full), api.Most, clock(api.Most, 0), true},
		// Such as can't be.
		{clock(5, 2), 7, stamp(9, -1), 20, clock(7, 0), false}, {clock(5, 2), 7, stamp(9, full+1), 20, clock(7, 0), false}, {clock(5, 2), 4, stamp(4, -1), 20, clock(5, 3), false},
		{clock(5, 2), 7, stamp(api.Most+1, 0), math.MaxInt, clock(7, 0), false}, {clock(5, 2), 7, stamp(-api.Most-1, 0), 20, clock(7, 0), false},
		{clock(5, 2), math.MaxInt, stamp(9, -1), 20, clock(api.Most, 0), false},
	} {
		if got, ok := x.c.Hear(x.now, x.s, x.most); got != x.want || ok != x.ok {
			t.Errorf("%v.Hear(%d, %v, %d) is %v, %v, not %v, %v", x.c, x.now, x.s, x.most, got, ok, x.want, x.ok)
		}
	}
}

// eachHear asks a clock of each kind to hear a stamp of each kind, at each time, with each most.
func eachHear(t *testing.T, look func(c hlc.Clock, now int, s api.Stamp, most int, got hlc.Clock, ok bool) bool) {
	for _, of := range stamps() {
		for _, s := range stamps() {
			for _, now := range times() {
				for _, most := range times() {
					c := hlc.Clock{Stamp: of}
					if got, ok := c.Hear(now, s, most); !look(c, now, s, most, got, ok) {
						t.Fatalf("%v.Hear(%d, %v, %d) is %v, %v", c, now, s, most, got, ok)
					}
				}
			}
		}
	}
}

// TestHear is P20.1's Hear of all kinds of numbers, against the model.
func TestHear(t *testing.T) {
	eachHear(t, func(c hlc.Clock, now int, s api.Stamp, most int, got hlc.Clock, ok bool) bool {
		want, right := modelHear(c.Stamp, now, s, most)
		return got.Stamp == want && ok == right
	})
}

// TestMend is P20.1's Mend: a clock that may stay is answered as it is, however far now is from it.
func TestMend(t *testing.T) {
	for _, x := range []struct {
		c         hlc.Clock
		now, most int
		want      hlc.Clock
		did       bool
	}{
		{clock(5, 2), 3, 20, clock(5, 2), false}, {clock(5, 2), 9, 20, clock(5, 2), false}, {clock(20, 2), 9, 20, clock(20, 2), false}, {clock(5, full), 9, 20, clock(5, full), false},
		{clock(-api.Most, 0), 9, -api.Most, clock(-api.Most, 0), false}, {clock(api.Most, full), 9, math.MaxInt, clock(api.Most, full), false},
		{clock(21, 2), 9, 20, clock(9, 0), true}, {clock(21, 2), 30, 20, clock(30, 0), true}, {clock(5, -1), 5, 20, clock(5, 0), true}, {clock(5, full+1), 5, 20, clock(5, 0), true},
		{clock(api.Most+1, 0), 9, math.MaxInt, clock(9, 0), true}, {clock(-api.Most-1, 0), 9, 20, clock(9, 0), true}, {clock(math.MinInt, math.MinInt), -9, 20, clock(-9, 0), true},
		{clock(21, 2), math.MaxInt, 20, clock(api.Most, 0), true}, {clock(21, 2), math.MinInt, 20, clock(-api.Most, 0), true}, {clock(-api.Most, 0), 9, math.MinInt, clock(9, 0), true},
	} {
		if got, did := x.c.Mend(x.now, x.most); got != x.want || did != x.did {
			t.Errorf("%v.Mend(%d, %d) is %v, %v, not %v, %v", x.c, x.now, x.most, got, did, x.want, x.did)
		}
	}
	for _, c := range stamps() {
		for _, now := range times() {
			for _, most := range times() {
				want, done := modelMend(c, now, most)
				k := hlc.Clock{Stamp: c}
				if got, did := k.Mend(now, most); got.Stamp != want || did != done {
					t.Fatalf("%v.Mend(%d, %d) is %v, %v, not %v, %v", c, now, most, got, did, want, done)
				}
			}
		}
	}
}

// TestAnyNumbers is P20.1 of numbers drawn at random, most of them near to one another.
func TestAnyNumbers(t *testing.T) {
	r := rand.New(rand.NewSource(20))
	middles := []int{0, 0, 0, full, -full, api.Most, -api.Most, math.MaxInt, math.MinInt}
	number := func() int { return middles[r.Intn(len(middles))] + r.Intn(7) - 3 }
	for range 300000 {
		c, s, now, most := stamp(number(), number()), stamp(number(), number()), number(), number()
		k := hlc.Clock{Stamp: c}
		if got, want := k.Tick(now), modelTick(c, now); got.Stamp != want {
			t.Fatalf("%v.Tick(%d) is %v, not %v", c, now, got, want)
		}
		heard, ok := k.Hear(now, s, most)
		if want, right := modelHear(c, now, s, most); heard.Stamp != want || ok != right {
			t.Fatalf("%v.Hear(%d, %v, %d) is %v, %v, not %v, %v", c, now, s, most, heard, ok, want, right)
		}
		mended, did := k.Mend(now, most)
		if want, done := modelMend(c, now, most); mended.Stamp != want || did != done {
			t.Fatalf("%v.Mend(%d, %d) is %v, %v, not %v, %v", c, now, most, mended, did, want, done)
		}
	}
}

// TestClockStays is the whole document's rules 3 and 4: a clock that is asked stays as it was, and answers the same again.
func TestClockStays(t *testing.T) {
	for _, of := range []hlc.Clock{clock(5, 2), clock(21, 2), clock(5, -1), clock(math.MaxInt, math.MaxInt)} {
		c := of
		for range 2 {
			ticked := c.Tick(7)
			heard, ok := c.Hear(7, stamp(9, 3), 20)
			mended, did := c.Mend(7, 20)
			if c != of {
				t.Fatalf("%v is %v behind its calls", of, c)
			}
			wantHeard, wantOk := modelHear(of.Stamp, 7, stamp(9, 3), 20)
			wantMended, wantDid := modelMend(of.Stamp, 7, 20)
			if ticked.Stamp != modelTick(of.Stamp, 7) || heard.Stamp != wantHeard || ok != wantOk || mended.Stamp != wantMended || did != wantDid {
				t.Fatalf("%v answers %v, %v, %v, %v, %v", of, ticked, heard, ok, mended, did)
			}
		}
	}
}

// clips is whether one of these times is clipped, or a stamp is the last one that there is.
func clips(now int, list ...api.Stamp) bool {
	for _, s := range list {
		if s.Time != clip(s.Time) || s.Time == api.Most && s.Num >= full {
			return true
		}
	}
	return now != clip(now)
}

// TestLater is P20.2: clocks get later by all that happens, where nothing is clipped, and aren't behind now.
func TestLater(t *testing.T) {
	for _, of := range stamps() {
		for _, now := range times() {
			c := hlc.Clock{Stamp: of}
			if got := c.Tick(now); !clips(now, of) && (place(got.Stamp).Cmp(place(of)) <= 0 || got.Time < now) {
				t.Fatalf("%v.Tick(%d) is %v", c, now, got)
			}
		}
	}
	later := func(a, b api.Stamp) bool { return a.Time > b.Time || a.Time == b.Time && a.Num > b.Num }
	eachHear(t, func(c hlc.Clock, now int, s api.Stamp, most int, got hlc.Clock, ok bool) bool {
		if clips(now, c.Stamp) || ok && clips(now, s) {
			return true
		}
		return later(got.Stamp, c.Stamp) && got.Time >= now && (!ok || later(got.Stamp, s))
	})
}

// TestTalk is P20.2 of clocks that tell one another: what comes behind something else is later, however far their times are apart.
func TestTalk(t *testing.T) {
	r := rand.New(rand.NewSource(202))
	for range 200 {
		clocks := []hlc.Clock{clock(r.Intn(50), full-2), clock(r.Intn(50), 0), clock(-r.Intn(50), full)}
		for range 200 {
			from, to := r.Intn(len(clocks)), r.Intn(len(clocks))
			sent := clocks[from].Tick(r.Intn(40))
			if !hlc.Less(clocks[from].Stamp, sent.Stamp) {
				t.Fatalf("%v isn't later than %v", sent, clocks[from])
			}
			clocks[from] = sent
			heard, ok := clocks[to].Hear(r.Intn(40), sent.Stamp, 1000)
			if !ok || !hlc.Less(sent.Stamp, heard.Stamp) || !hlc.Less(clocks[to].Stamp, heard.Stamp) {
				t.Fatalf("%v hears %v, and is %v, %v", clocks[to], sent, heard, ok)
			}
			clocks[to] = heard
		}
	}
}

// bounded is whether a clock's Time is within P20.3: at most the greatest of some times, clipped, or one more behind the last stamp of that time.
func bounded(got api.Stamp, greatest int, list ...api.Stamp) bool {
	limit := clip(greatest)
	crowded := slices.ContainsFunc(list, func(s api.Stamp) bool { return clip(s.Time) == limit && s.Num >= full })
	return got.Time <= limit || crowded && got == stamp(limit+1, 0)
}

// TestBounded is P20.3: no call brings a clock's Time above what it was, now and the most; one more only where a Num is the greatest.
func TestBounded(t *testing.T) {
	for _, of := range stamps() {
		for _, now := range times() {
			c := hlc.Clock{Stamp: of}
			if got := c.Tick(now); !bounded(got.Stamp, max(c.Time, now), of) {
				t.Fatalf("%v.Tick(%d) is %v", c, now, got)
			}
			for _, most := range times() {
				if got, _ := c.Mend(now, most); got.Time > max(c.Time, clip(now)) {
					t.Fatalf("%v.Mend(%d, %d) is %v", c, now, most, got)
				}
			}
		}
	}
	eachHear(t, func(c hlc.Clock, now int, s api.Stamp, most int, got hlc.Clock, ok bool) bool {
		if !ok {
			return bounded(got.Stamp, max(c.Time, now), c.Stamp)
		}
		return bounded(got.Stamp, max(c.Time, now, most), c.Stamp, s)
	})
}

// TestFlood is P20.3 of many messages: whoever sends the latest stamps that may be brings a clock no further than one above the most.
func TestFlood(t *testing.T) {
	c := clock(5, 0)
	for i := range 1000 {
		for _, s := range []api.Stamp{stamp(20, full), stamp(21, 0), stamp(21, full), stamp(api.Most, full), stamp(math.MaxInt, 0), stamp(20, full+1)} {
			got, ok := c.Hear(7, s, 20)
			if ok != (s == stamp(20, full)) || got.Time > 21 || !hlc.Less(c.Stamp, got.Stamp) {
				t.Fatalf("message %d: %v hears %v, and is %v, %v", i, c, s, got, ok)
			}
			c = got
		}
	}
	if c.Time != 21 {
		t.Errorf("it is %v at last", c)
	}
}

// TestManyAtOneTime is P20.3 of Tick: the Time is one more once a Num is the greatest, and not earlier.
func TestManyAtOneTime(t *testing.T) {
	c := clock(5, full-2)
	for _, want := range []hlc.Clock{clock(5, full-1), clock(5, full), clock(6, 0), clock(6, 1)} {
		if c = c.Tick(5); c != want {
			t.Errorf("Tick(5) is %v, not %v", c, want)
		}
	}
}
