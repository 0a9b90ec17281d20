package pulse_test

import (
	"math"
	"math/big"
	"math/rand"
	"slices"
	"testing"

	"clepsydra/api"
	"clepsydra/pulse"
)

const most = api.Most

// edges are ordinary numbers, those around where clipping begins, and those far beyond.
func edges() []int {
	return []int{math.MinInt, math.MinInt + 1, -1 << 62, -most - 1, -most, -most + 1, -most + 100, -1 << 60, -1<<31 - 1, -1000, -10, -1,
		0, 1, 2, 3, 10, 1000, 1 << 30, 1<<31 - 1, 1 << 40, 1 << 60, 1<<60 + 1, most - 100, most - 1, most, most + 1, 1 << 62, math.MaxInt - 1, math.MaxInt}
}

// of are numbers of a fabric of which Pulse alone is told.
func of(ticks int) api.Params { return api.Params{Pulse: ticks} }

// clip is layer 1's, of numbers that may be greater than an int.
func clip(x *big.Int) *big.Int {
	top := big.NewInt(most)
	if x.CmpAbs(top) <= 0 {
		return x
	}
	if x.Sign() < 0 {
		return top.Neg(top)
	}
	return top
}

func number(x int) *big.Int { return clip(big.NewInt(int64(x))) }

// ticks are those of a pulse.
func ticks(pulse int) *big.Int { return number(max(pulse, 1)) }

// modelTell is the chapter's Number and Phase, in numbers without bounds.
func modelTell(pulse, t int) (int, int) {
	times, left := new(big.Int).DivMod(number(t), ticks(pulse), new(big.Int))
	return int(times.Int64()), int(left.Int64())
}

func modelBegin(pulse, n int) int {
	return int(clip(new(big.Int).Mul(number(n), ticks(pulse))).Int64())
}

// modelFired is the chapter's Fired, where few are answered.
func modelFired(pulse, from, to, few int) []int {
	n, _ := modelTell(pulse, from)
	last, _ := modelTell(pulse, to)
	var all []int
	for n++; n <= last && len(all) < few; n++ {
		all = append(all, n)
	}
	return all
}

// check holds Number, Phase and Begin against the model.
func check(t *testing.T, ticks, x int) {
	t.Helper()
	p := of(ticks)
	n, phase := modelTell(ticks, x)
	if got := pulse.Number(p, x); got != n {
		t.Fatalf("of Pulse %d Number(%d) is %d, not %d", ticks, x, got, n)
	}
	if got := pulse.Phase(p, x); got != phase {
		t.Fatalf("of Pulse %d Phase(%d) is %d, not %d", ticks, x, got, phase)
	}
	if got, want := pulse.Begin(p, x), modelBegin(ticks, x); got != want {
		t.Fatalf("of Pulse %d Begin(%d) is %d, not %d", ticks, x, got, want)
	}
}

// checkFired holds Fired against the model.
func checkFired(t *testing.T, ticks, from, to, few int) {
	t.Helper()
	if got, want := pulse.Fired(of(ticks), from, to, few), modelFired(ticks, from, to, few); !slices.Equal(got, want) {
		t.Fatalf("of Pulse %d Fired(%d, %d, %d) is %v, not %v", ticks, from, to, few, got, want)
	}
}

// TestExamples are the chapter's examples.
func TestExamples(t *testing.T) {
	if n, phase := pulse.Number(of(10), -1), pulse.Phase(of(10), -1); n != -1 || phase != 9 {
		t.Errorf("of -1: %d, %d", n, phase)
	}
	if got := pulse.Fired(of(10), 8, 31, 9); !slices.Equal(got, []int{1, 2, 3}) {
		t.Errorf("Fired is %v", got)
	}
}

// TestTold is P13.1's Number and Phase, worked out by hand: ordinary times, both sides of 0, a Pulse that no fabric has, and the ends.
func TestTold(t *testing.T) {
	for _, c := range []struct{ ticks, t, number, phase int }{
		{10, 0, 0, 0}, {10, 1, 0, 1}, {10, 9, 0, 9}, {10, 10, 1, 0}, {10, 19, 1, 9}, {10, 20, 2, 0}, {10, 25, 2, 5},
		{10, -1, -1, 9}, {10, -9, -1, 1}, {10, -10, -1, 0}, {10, -11, -2, 9}, {10, -20, -2, 0}, {10, -25, -3, 5},
		{5000, 4999, 0, 4999}, {5000, 123456, 24, 3456}, {5000, -123456, -25, 1544},
		{1, 7, 7, 0}, {1, -7, -7, 0}, {2, 7, 3, 1}, {2, -7, -4, 1},
		// Below 1 it is a pulse of 1.
		{0, 7, 7, 0}, {0, -7, -7, 0}, {-1, 7, 7, 0}, {-10, 25, 25, 0}, {-10, -25, -25, 0}, {math.MinInt, 7, 7, 0}, {-most, -7, -7, 0},
		// At the ends, and beyond them, where the time stays.
		{1, most, most, 0}, {1, -most, -most, 0}, {0, most, most, 0}, {-3, -most, -most, 0},
		{1, most + 1, most, 0}, {1, math.MaxInt, most, 0}, {1, -most - 1, -most, 0}, {1, math.MinInt, -most, 0},
		// 2^61 is 2 of 10, and 2 of 3.
		{10, most, most / 10, 2}, {10, math.MaxInt, most / 10, 2}, {10, -most, -most/10 - 1, 8}, {10, math.MinInt, -most/10 - 1, 8},
		{3, most, most / 3, 2}, {3, math.MaxInt, most / 3, 2}, {3, -most, -most/3 - 1, 1}, {3, math.MinInt, -most/3 - 1, 1},
		// And so does a Pulse.
		{most, 0, 0, 0}, {most, 5, 0, 5}, {most, -5, -1, most - 5}, {most, most - 1, 0, most - 1}, {most, most, 1, 0}, {most, -most, -1, 0},
		{most - 1, most, 1, 1}, {most - 1, -most, -2, most - 2}, {most - 1, math.MinInt, -2, most - 2},
		{math.MaxInt, 5, 0, 5}, {math.MaxInt, -5, -1, most - 5}, {math.MaxInt, math.MaxInt, 1, 0}, {math.MaxInt, math.MinInt, -1, 0}, {most + 1, most, 1, 0},
	} {
		if got := pulse.Number(of(c.ticks), c.t); got != c.number {
			t.Errorf("of Pulse %d Number(%d) is %d, not %d", c.ticks, c.t, got, c.number)
		}
		if got := pulse.Phase(of(c.ticks), c.t); got != c.phase {
			t.Errorf("of Pulse %d Phase(%d) is %d, not %d", c.ticks, c.t, got, c.phase)
		}
	}
}

// TestBegin is P13.1's Begin, worked out by hand: ordinary numbers, a Pulse that no fabric has, and where the product or what goes in is clipped.
func TestBegin(t *testing.T) {
	for _, c := range []struct{ ticks, n, want int }{
		{10, 0, 0}, {10, 1, 10}, {10, 7, 70}, {10, -1, -10}, {10, -7, -70}, {5000, 24, 120000}, {1, 7, 7}, {1, -7, -7},
		{0, 7, 7}, {0, -7, -7}, {-1, 7, 7}, {-10, 7, 7}, {-10, -7, -7}, {math.MinInt, 7, 7}, {0, 0, 0},
		{1, most, most}, {1, -most, -most}, {0, most + 1, most}, {-5, math.MaxInt, most}, {1, math.MinInt, -most},
		{10, most / 10, most - 2}, {10, most/10 + 1, most}, {10, -most / 10, -most + 2}, {10, -most/10 - 1, -most},
		{10, most, most}, {10, math.MinInt, -most}, {1 << 31, 1 << 30, most}, {1 << 31, 1<<30 - 1, most - 1<<31}, {1 << 31, 1 << 33, most}, {1 << 31, -1 << 33, -most},
		{most, 1, most}, {most, -1, -most}, {most, 2, most}, {most, 0, 0}, {math.MaxInt, 1, most}, {math.MaxInt, -1, -most}, {math.MaxInt, math.MinInt, -most}, {math.MaxInt, 0, 0},
	} {
		if got := pulse.Begin(of(c.ticks), c.n); got != c.want {
			t.Errorf("of Pulse %d Begin(%d) is %d, not %d", c.ticks, c.n, got, c.want)
		}
	}
}

// TestFired is P13.1's Fired, worked out by hand: both ends, times the wrong way round, counts at their ends, and times and Pulses that no fabric has.
func TestFired(t *testing.T) {
	for _, c := range []struct {
		ticks, from, to, most int
		want                  []int
	}{
		{10, 8, 31, 9, []int{1, 2, 3}},
		// A pulse that begins at the first time has fired, one that begins at the last fires.
		{10, 10, 30, 9, []int{2, 3}},
		{10, 9, 30, 9, []int{1, 2, 3}},
		{10, 10, 29, 9, []int{2}},
		{10, 10, 19, 9, nil},
		{10, 10, 20, 9, []int{2}},
		{10, 19, 20, 9, []int{2}},
		{10, 20, 20, 9, nil},
		{10, 19, 19, 9, nil},
		{10, -25, 5, 9, []int{-2, -1, 0}},
		{10, -20, -1, 9, []int{-1}},
		{10, -1, 0, 9, []int{0}},
		// Back in time none fires.
		{10, 31, 8, 9, nil},
		{10, 10, 9, 9, nil},
		{10, math.MaxInt, math.MinInt, math.MaxInt, nil},
		// The first of them, so many at most.
		{10, 8, 31, 4, []int{1, 2, 3}},
		{10, 8, 31, 3, []int{1, 2, 3}},
		{10, 8, 31, 2, []int{1, 2}},
		{10, 8, 31, 1, []int{1}},
		{10, 8, 31, 0, nil},
		{10, 8, 31, -1, nil},
		{10, 8, 31, math.MinInt, nil},
		{10, 8, 31, most, []int{1, 2, 3}},
		{10, 8, 31, math.MaxInt, []int{1, 2, 3}},
		{10, 31, 8, -1, nil},
		{1, 5, 9, 9, []int{6, 7, 8, 9}},
		{0, 5, 9, 9, []int{6, 7, 8, 9}},
		{-10, 5, 9, 2, []int{6, 7}},
		// From one end to the other, of pulses of 1: the numbers part by more than api.Most.
		{1, -most, most, 3, []int{-most + 1, -most + 2, -most + 3}},
		{0, math.MinInt, math.MaxInt, 2, []int{-most + 1, -most + 2}},
		{1, most - 2, math.MaxInt, 9, []int{most - 1, most}},
		{1, most, math.MaxInt, 9, nil},
		{1, math.MinInt, -most + 2, 9, []int{-most + 1, -most + 2}},
		{1, math.MinInt, -most, 9, nil},
		{10, most - 13, most, 9, []int{most/10 - 1, most / 10}},
		{most, -most, most, 9, []int{0, 1}},
		{math.MaxInt, math.MinInt, math.MaxInt, 9, []int{0, 1}},
		{most - 1, -most, most, 9, []int{-1, 0, 1}},
	} {
		if got := pulse.Fired(of(c.ticks), c.from, c.to, c.most); !slices.Equal(got, c.want) {
			t.Errorf("of Pulse %d Fired(%d, %d, %d) is %v, not %v", c.ticks, c.from, c.to, c.most, got, c.want)
		}
	}
}

// TestManyFired is P13.1: of many each is told, the last one, too.
func TestManyFired(t *testing.T) {
	for _, few := range []int{99999, 100000, 100001, math.MaxInt} {
		got := pulse.Fired(of(7), -700, 700000-701, few)
		if len(got) != min(few, 99999) {
			t.Fatalf("%d are told", len(got))
		}
		for i, n := range got {
			if n != i-99 {
				t.Fatalf("number %d is %d", i, n)
			}
		}
	}
}

// TestFiredIsNew is P13.1 by rule 3: the lists of two answers share nothing, and neither do their spare rooms.
func TestFiredIsNew(t *testing.T) {
	first := pulse.Fired(of(10), 8, 51, 9)
	for i := range first {
		first[i] = 77
	}
	_ = append(first, 78)
	if got := pulse.Fired(of(10), 8, 51, 9); !slices.Equal(got, []int{1, 2, 3, 4, 5}) {
		t.Errorf("behind what the caller wrote, Fired is %v", got)
	}
}

// TestOfAll is P13.1's Number, Phase, Begin and Fired, of all numbers, against a model.
func TestOfAll(t *testing.T) {
	for _, a := range edges() {
		for _, b := range edges() {
			check(t, a, b)
			for _, c := range edges() {
				for _, few := range []int{math.MinInt, -1, 0, 1, 5} {
					checkFired(t, a, b, c, few)
				}
			}
		}
	}
	r := rand.New(rand.NewSource(13))
	n := func() int {
		switch r.Intn(4) {
		case 0:
			return edges()[r.Intn(len(edges()))]
		case 1:
			return int(r.Uint64())
		}
		return r.Intn(2000) - 1000
	}
	for range 30000 {
		check(t, n(), n())
		checkFired(t, n(), n(), n(), r.Intn(12)-2)
	}
}

// TestOtherNumbers is P13.1: of a fabric's numbers Pulse alone has a say.
func TestOtherNumbers(t *testing.T) {
	for _, n := range edges() {
		p := api.Params{N: n, F: n, D: n, Beat: n, Rho: n, Delay: n, Jitter: n, Eps: n, Mu: n, Hold: n, Pulse: 10, Second: n}
		if pulse.Number(p, 25) != 2 || pulse.Phase(p, 25) != 5 || pulse.Begin(p, 2) != 20 {
			t.Errorf("of %+v 25 is %d, %d, and 2 begins at %d", p, pulse.Number(p, 25), pulse.Phase(p, 25), pulse.Begin(p, 2))
		}
		if got := pulse.Fired(p, 8, 31, 9); !slices.Equal(got, []int{1, 2, 3}) {
			t.Errorf("of %+v Fired is %v", p, got)
		}
	}
}

// TestVote is P13.1's Vote, worked out by hand: what is left without the f least and greatest, too few, and counts that can't be.
func TestVote(t *testing.T) {
	for _, c := range []struct {
		f    int
		list []int
		want int
		ok   bool
	}{
		{1, []int{7, 8, 100, -5, 8}, 7, true},
		{1, []int{7, 8, 100, -5}, 7, true},
		{1, []int{9, 8, 100, -5, 11}, 9, true},
		{1, []int{1000, 5, -1000}, 5, true},
		{1, []int{5, 5, 5}, 5, true},
		{1, []int{7, 8}, 0, false},
		{1, []int{7}, 0, false},
		{1, nil, 0, false},
		{0, nil, 0, false},
		{0, []int{7}, 7, true},
		{0, []int{9, 7}, 8, true},
		{0, []int{7, 8}, 7, true},
		{0, []int{-7, -8}, -8, true},
		{0, []int{1, 3, 100}, 50, true},
		{2, []int{1, 2, 3, 4}, 0, false},
		{2, []int{5, 1, 4, 2, 3}, 3, true},
		{2, []int{6, 5, 1, 4, 2, 3}, 3, true},
		{-1, []int{7, 8, 9}, 0, false},
		{-1, nil, 0, false},
		{math.MinInt, []int{7, 8, 9}, 0, false},
		{1 << 62, []int{7, 8, 9}, 0, false},
		{math.MaxInt, []int{7, 8, 9}, 0, false},
		// Numbers that no pulse has are clipped, where they are left.
		{1, []int{math.MaxInt, 7, math.MinInt}, 7, true},
		{1, []int{math.MaxInt, math.MaxInt, math.MinInt}, most, true},
		{1, []int{math.MinInt, math.MaxInt, math.MinInt}, -most, true},
		{0, []int{math.MaxInt}, most, true},
		{0, []int{-most - 1}, -most, true},
		{0, []int{math.MinInt, math.MaxInt}, 0, true},
		{0, []int{most - 2, most}, most - 1, true},
	} {
		told := slices.Clone(c.list)
		if got, ok := pulse.Vote(c.f, told...); got != c.want || ok != c.ok {
			t.Errorf("Vote(%d) of %v is %d, %v, not %d, %v", c.f, c.list, got, ok, c.want, c.ok)
		}
		if !slices.Equal(told, c.list) {
			t.Errorf("Vote(%d) made %v into %v", c.f, c.list, told)
		}
	}
}

// TestTogether is P13.2: a time is its pulse's beginning and its phase, and that is below a pulse, wherever the beginning isn't clipped.
func TestTogether(t *testing.T) {
	r := rand.New(rand.NewSource(131))
	for _, ticks := range edges() {
		one := min(max(ticks, 1), most)
		times := append(edges(), one-1, one, -one, -one+1)
		for range 50 {
			times = append(times, r.Intn(2*most+1)-most, r.Intn(4001)-2000)
		}
		for _, x := range times {
			n, phase := pulse.Number(of(ticks), x), pulse.Phase(of(ticks), x)
			if phase < 0 || phase >= one {
				t.Fatalf("of Pulse %d the phase of %d is %d", ticks, x, phase)
			}
			// Beyond that the time, or its pulse's beginning, is clipped.
			if x > most || x < -most || x-phase < -most {
				continue
			}
			if got := pulse.Begin(of(ticks), n); got+phase != x {
				t.Fatalf("of Pulse %d %d is in %d, which begins at %d, and %d behind that", ticks, x, n, got, phase)
			}
			if pulse.Number(of(ticks), x-phase) != n || pulse.Phase(of(ticks), x-phase) != 0 {
				t.Fatalf("of Pulse %d %d doesn't begin at %d", ticks, n, x-phase)
			}
		}
	}
}

// TestEachBegins is P13.2, of all small numbers: one pulse begins behind the other, with nothing between them.
func TestEachBegins(t *testing.T) {
	for ticks := -2; ticks <= 12; ticks++ {
		one := max(ticks, 1)
		for n := -9; n <= 9; n++ {
			begin := pulse.Begin(of(ticks), n)
			if begin != n*one {
				t.Fatalf("of Pulse %d %d begins at %d", ticks, n, begin)
			}
			for phase := range one {
				if pulse.Number(of(ticks), begin+phase) != n || pulse.Phase(of(ticks), begin+phase) != phase {
					t.Fatalf("of Pulse %d %d behind the beginning of %d: %d, %d", ticks, phase, n, pulse.Number(of(ticks), begin+phase), pulse.Phase(of(ticks), begin+phase))
				}
			}
		}
	}
}

// part holds two times that aren't further from one another than a pulse to P13.2.
func part(t *testing.T, ticks, from, to int) {
	t.Helper()
	if n := pulse.Number(of(ticks), to) - pulse.Number(of(ticks), from); n < 0 || n > 1 {
		t.Fatalf("of Pulse %d the numbers of %d and %d part by %d", ticks, from, to, n)
	}
}

// TestPart is P13.2: the numbers of times that aren't further from one another than a pulse part by one at most, at the ends, too.
func TestPart(t *testing.T) {
	r := rand.New(rand.NewSource(132))
	for ticks := -1; ticks <= 9; ticks++ {
		for from := -30; from <= 30; from++ {
			for to := from; to <= from+max(ticks, 1); to++ {
				part(t, ticks, from, to)
			}
			// A whole pulse later it is the next one, and no later.
			if n, last := pulse.Number(of(ticks), from), pulse.Number(of(ticks), from+max(ticks, 1)); last != n+1 {
				t.Fatalf("of Pulse %d a pulse behind %d is %d, behind %d", ticks, from, last, n)
			}
		}
	}
	for _, ticks := range []int{1, 2, 3, 10, 5000, 1 << 40, 1 << 60, most - 1, most} {
		for _, from := range []int{-most, -most + 1, -most + 100, -1 << 60, -ticks - 1, -ticks, -ticks + 1, -1, 0, 1, most - ticks - 1, most - ticks, most - 1, r.Intn(most)} {
			for _, off := range []int{0, 1, ticks - 1, ticks, r.Intn(ticks)} {
				part(t, ticks, from, from+off)
			}
		}
	}
	// Beyond the ends times stay there, and don't part by more.
	part(t, 10, most-3, most+7)
	part(t, 10, -most-7, -most+3)
	part(t, 1, math.MaxInt-1, math.MaxInt)
	part(t, 1, math.MinInt, math.MinInt+1)
}

// voted holds a vote, of times of right gateways and of numbers that others tell, to P13.3.
func voted(t *testing.T, r *rand.Rand, ticks, f int, times, lies []int) {
	t.Helper()
	list := slices.Clone(lies)
	for _, x := range times {
		list = append(list, pulse.Number(of(ticks), x))
	}
	r.Shuffle(len(list), func(i, j int) { list[i], list[j] = list[j], list[i] })
	first, last := pulse.Number(of(ticks), slices.Min(times)), pulse.Number(of(ticks), slices.Max(times))
	got, ok := pulse.Vote(f, list...)
	if !ok || got < first || got > last {
		t.Fatalf("of Pulse %d Vote(%d) of %v is %d, %v: right ones tell from %d to %d", ticks, f, list, got, ok, first, last)
	}
}

// TestVoteWithin is P13.3: whatever f gateways tell, the vote is from the first to the last of what the others tell.
func TestVoteWithin(t *testing.T) {
	r := rand.New(rand.NewSource(133))
	wild := func() int { return edges()[r.Intn(len(edges()))] }
	for f := range 6 {
		for wrong := range f + 1 {
			// 2 f + 1 gateways, and more of them.
			for right := 2*f + 1 - wrong; right <= 2*f+4; right++ {
				for range 30 {
					ticks, middle := []int{-1, 1, 10, 5000, 1 << 60, most}[r.Intn(6)], wild()/2
					times, lies := make([]int, right), make([]int, wrong)
					for i := range times {
						times[i] = middle + r.Intn(200) - 100
					}
					// All lies on one side, or any.
					side := wild()
					for i := range lies {
						if lies[i] = side; r.Intn(2) == 0 {
							lies[i] = wild()
						}
					}
					voted(t, r, ticks, f, times, lies)
				}
			}
		}
	}
}

// TestVoteOne is P13.3: where all right gateways are in one pulse, the vote is that one's number, and of two that are next to one another one of the two.
func TestVoteOne(t *testing.T) {
	r := rand.New(rand.NewSource(134))
	for _, lie := range edges() {
		voted(t, r, 10, 1, []int{20, 29}, []int{lie})
		voted(t, r, 10, 1, []int{20, 25, 29}, []int{lie})
		voted(t, r, 10, 1, []int{29, 30}, []int{lie})
		voted(t, r, 10, 1, []int{29, 30, 30}, []int{lie})
		voted(t, r, 10, 2, []int{-1, 0, -1}, []int{lie, -lie})
		voted(t, r, 1, 1, []int{most, most}, []int{lie})
		voted(t, r, 1, 1, []int{-most, -most}, []int{lie})
	}
}
