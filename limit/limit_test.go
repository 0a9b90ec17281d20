package limit_test

import (
	"math"
	"math/big"
	"testing"

	"clepsydra/api"
	"clepsydra/limit"
)

// example is the chapter's.
func example() api.Params {
	return api.Params{N: 4, F: 1, D: 2, Beat: 1000, Rho: 1, Delay: 100, Jitter: 10, Eps: 50, Mu: 20, Hold: 5, Pulse: 5000, Second: 1000}
}

// greatest has each number as great as it may be, beside the others.
func greatest() api.Params {
	return api.Params{N: 16, F: 5, D: 16, Beat: 1 << 40, Rho: 1 << 37, Delay: 1 << 39, Jitter: 1 << 39, Eps: 1 << 40, Mu: 1 << 38, Hold: 1 << 20, Pulse: 1 << 40, Second: 1 << 40}
}

// least has each number as small as it may be; 4 is the shortest beat of which a quarter is above Rho 0.
func least() api.Params {
	return api.Params{N: 1, Beat: 4, Mu: 1, Hold: 2, Pulse: 1, Second: 1}
}

// fields are all numbers of p, to be read and written by their names.
func fields(p *api.Params) map[string]*int {
	return map[string]*int{
		"N": &p.N, "F": &p.F, "D": &p.D, "Beat": &p.Beat, "Rho": &p.Rho, "Delay": &p.Delay,
		"Jitter": &p.Jitter, "Eps": &p.Eps, "Mu": &p.Mu, "Hold": &p.Hold, "Pulse": &p.Pulse, "Second": &p.Second,
	}
}

func with(p api.Params, name string, x int) api.Params {
	*fields(&p)[name] = x
	return p
}

// mayBe says by products what the chapter says by ratios made whole, so that it rounds nothing; for small numbers.
func mayBe(p api.Params) bool {
	gates := p.N >= 1 && p.N <= 16 && p.F >= 0 && p.N >= 3*p.F+1
	steps := p.D >= 0 && p.D <= 16 && p.Hold >= p.D+2 && p.Hold <= 1<<20
	beat := p.Beat >= 1 && p.Beat <= 1<<40 && p.Rho >= 0 && 8*p.Rho <= p.Beat && p.Mu > p.Rho && 4*p.Mu <= p.Beat
	ways := p.Delay >= 0 && 2*p.Delay <= p.Beat && p.Jitter >= 0 && p.Jitter <= p.Delay && p.Eps >= 0 && p.Eps <= 1<<40
	users := p.Pulse >= 1 && p.Pulse <= 1<<40 && p.Second >= 1 && p.Second <= 1<<40
	return gates && steps && beat && ways && users
}

func wantCheck(t *testing.T, p api.Params, ok bool) {
	t.Helper()
	want := api.ErrArg
	if ok {
		want = api.OK
	}
	if got := limit.Check(p); got != want {
		t.Errorf("Check(%+v) is %d, not %d", p, got, want)
	}
}

// TestCheckEnds is P4.1's Check: each number at both of its ends, beside the chapter's example, and one beyond them.
func TestCheckEnds(t *testing.T) {
	for _, c := range []struct {
		name   string
		lo, hi int
	}{
		{"N", 4, 16}, {"F", 0, 1}, {"D", 0, 3}, {"Rho", 0, 19}, {"Delay", 10, 500}, {"Jitter", 0, 100}, {"Eps", 0, 1 << 40},
		{"Beat", 200, 1 << 40}, {"Mu", 2, 250}, {"Hold", 4, 1 << 20}, {"Pulse", 1, 1 << 40}, {"Second", 1, 1 << 40},
	} {
		for _, x := range []int{c.lo, c.lo + 1, c.hi - 1, c.hi} {
			wantCheck(t, with(example(), c.name, x), true)
		}
		for _, x := range []int{c.lo - 1, c.hi + 1} {
			wantCheck(t, with(example(), c.name, x), false)
		}
	}
}

// TestCheckOthers is P4.1's Check: the ends that hang on numbers which aren't the example's, and on no other number.
func TestCheckOthers(t *testing.T) {
	roomy := greatest()
	roomy.Rho, roomy.Delay, roomy.Jitter, roomy.Mu = 0, 0, 0, 1
	for _, p := range []api.Params{example(), greatest(), least(), roomy} {
		wantCheck(t, p, true)
	}
	for _, c := range []struct {
		p      api.Params
		name   string
		lo, hi int
	}{
		{roomy, "D", 0, 16}, {roomy, "Rho", 0, 0}, {roomy, "Delay", 0, 1 << 39}, {roomy, "Jitter", 0, 0}, {roomy, "Mu", 1, 1 << 38}, {roomy, "F", 0, 5}, {roomy, "N", 16, 16},
		{with(roomy, "Mu", 1<<38), "Rho", 0, 1 << 37}, {with(roomy, "Delay", 1<<39), "Jitter", 0, 1 << 39}, {with(roomy, "F", 0), "N", 1, 16},
		{greatest(), "Hold", 18, 1 << 20}, {greatest(), "Mu", 1<<37 + 1, 1 << 38}, {greatest(), "Beat", 1 << 40, 1 << 40}, {greatest(), "Delay", 1 << 39, 1 << 39},
		{least(), "N", 1, 16}, {least(), "F", 0, 0}, {least(), "D", 0, 0}, {least(), "Hold", 2, 1 << 20}, {least(), "Beat", 4, 1 << 40}, {least(), "Rho", 0, 0}, {least(), "Delay", 0, 2}, {least(), "Jitter", 0, 0}, {least(), "Mu", 1, 1},
	} {
		for _, x := range []int{c.lo - 1, c.lo, c.hi, c.hi + 1} {
			wantCheck(t, with(c.p, c.name, x), c.lo <= x && x <= c.hi)
		}
	}
}

// TestCheckSmall is P4.1's Check, of all small numbers that hang on one another: ratios are made whole downwards, and a short beat leaves Mu no number.
func TestCheckSmall(t *testing.T) {
	for n := -1; n <= 18; n++ {
		for f := -2; f <= 7; f++ {
			p := example()
			p.N, p.F = n, f
			wantCheck(t, p, mayBe(p))
		}
	}
	for d := -1; d <= 18; d++ {
		for hold := -1; hold <= 21; hold++ {
			p := example()
			p.D, p.Hold = d, hold
			wantCheck(t, p, mayBe(p))
		}
	}
	for beat := -9; beat <= 34; beat++ {
		for rho := -2; rho <= 6; rho++ {
			for mu := -3; mu <= 10; mu++ {
				p := example()
				p.Beat, p.Rho, p.Mu, p.Delay, p.Jitter = beat, rho, mu, 0, 0
				wantCheck(t, p, mayBe(p))
			}
		}
		for delay := -6; delay <= 18; delay++ {
			for jitter := -2; jitter <= 19; jitter++ {
				p := example()
				p.Beat, p.Rho, p.Mu, p.Delay, p.Jitter = beat, 0, 1, delay, jitter
				wantCheck(t, p, mayBe(p))
			}
		}
	}
}

// TestCheckFar is P4.1's Check, of numbers far beyond: none makes another one's end wrap.
func TestCheckFar(t *testing.T) {
	far := []int{math.MinInt, math.MinInt + 1, math.MinInt + 2, -api.Most - 1, -api.Most, -1 << 40, api.Most, api.Most + 1, math.MaxInt - 2, math.MaxInt - 1, math.MaxInt}
	for _, p := range []api.Params{example(), greatest(), least(), {}} {
		for name := range fields(&p) {
			for _, x := range far {
				wantCheck(t, with(p, name, x), false)
				for other := range fields(&p) {
					for _, y := range far {
						wantCheck(t, with(with(p, name, x), other, y), false)
					}
				}
			}
		}
	}
	wantCheck(t, api.Params{}, false)
}

// reckon reckons without bounds, but where it is told to clip.
type reckon struct{ clips bool }

func (r reckon) whole(x *big.Int) *big.Int {
	most := big.NewInt(api.Most)
	if !r.clips || x.CmpAbs(most) <= 0 {
		return x
	}
	if x.Sign() < 0 {
		return new(big.Int).Neg(most)
	}
	return most
}

func (r reckon) number(x int) *big.Int { return r.whole(big.NewInt(int64(x))) }

func (r reckon) add(list ...*big.Int) *big.Int {
	sum := new(big.Int)
	for _, x := range list {
		sum = r.whole(new(big.Int).Add(sum, x))
	}
	return sum
}

func (r reckon) times(a int, b *big.Int) *big.Int {
	return r.whole(new(big.Int).Mul(r.number(a), b))
}

func (r reckon) hop(p api.Params) *big.Int {
	return r.add(r.number(p.Jitter), r.times(p.Rho, r.number(2)))
}

func (r reckon) gate(p api.Params) *big.Int {
	return r.times(2, r.add(r.times(p.Eps, r.number(2)), r.hop(p)))
}

func (r reckon) width(p api.Params, held, hops int) *big.Int {
	steps := r.add(r.number(hops), r.number(1))
	ways := r.whole(new(big.Int).Mul(steps, r.hop(p)))
	return r.add(r.gate(p), r.times(held, r.times(p.Rho, r.number(2))), ways)
}

func (r reckon) skew(p api.Params, held int) *big.Int { return r.times(2, r.width(p, held, p.D)) }

func (r reckon) settle(p api.Params) *big.Int {
	by := r.add(r.number(p.Mu), new(big.Int).Neg(r.number(p.Rho)))
	if by.Sign() <= 0 {
		by = big.NewInt(1)
	}
	// Big's Div of a divisor above 0 is down, so that of the opposite is up.
	slewed := r.times(-3, r.width(p, p.Hold, p.D))
	slewed.Div(slewed, by).Neg(slewed)
	return r.add(r.times(p.D, r.number(2)), r.number(6), r.whole(slewed))
}

// bounds are what the calls answer, by their order in the chapter.
func bounds(p api.Params, held, hops int) [5]int {
	return [5]int{limit.Hop(p), limit.Gate(p), limit.Width(p, held, hops), limit.Skew(p, held), limit.Settle(p)}
}

func (r reckon) bounds(p api.Params, held, hops int) [5]*big.Int {
	return [5]*big.Int{r.hop(p), r.gate(p), r.width(p, held, hops), r.skew(p, held), r.settle(p)}
}

func wantBounds(t *testing.T, r reckon, p api.Params, held, hops int) {
	t.Helper()
	got, want := bounds(p, held, hops), r.bounds(p, held, hops)
	for i, x := range got {
		if want[i].Cmp(big.NewInt(int64(x))) != 0 {
			t.Fatalf("%+v, held %d, hops %d: Hop, Gate, Width, Skew, Settle are %v, not %v", p, held, hops, got, want)
		}
	}
}

// TestBounds is P4.1's Hop, Gate, Width, Skew and Settle: the chapter's example, ordinary numbers, and numbers that may not be.
func TestBounds(t *testing.T) {
	for _, c := range []struct {
		p          api.Params
		held, hops int
		want       [5]int
	}{
		{example(), 0, 2, [5]int{12, 224, 260, 520, 53}},
		{example(), 10, 0, [5]int{12, 224, 256, 560, 53}},
		{example(), 1, 1, [5]int{12, 224, 250, 524, 53}},
		{least(), 0, 0, [5]int{0, 0, 0, 0, 6}},
		{least(), 7, 9, [5]int{0, 0, 0, 0, 6}},
		{api.Params{}, 3, 4, [5]int{0, 0, 0, 0, 6}},
		{api.Params{D: 1, Jitter: 3, Mu: 1}, 5, 0, [5]int{3, 6, 9, 24, 44}},
		// What is slewed in Settle is up to a whole number: 3 times 9 by 10, by 9, by 26 and by 27, and below 0.
		{api.Params{Jitter: 3, Mu: 10}, 0, 0, [5]int{3, 6, 9, 18, 9}},
		{api.Params{Jitter: 3, Mu: 9}, 0, 0, [5]int{3, 6, 9, 18, 9}},
		{api.Params{Jitter: 3, Mu: 26}, 0, 0, [5]int{3, 6, 9, 18, 8}},
		{api.Params{Jitter: 3, Mu: 27}, 0, 0, [5]int{3, 6, 9, 18, 7}},
		{api.Params{Jitter: -3, Mu: 10}, 0, 0, [5]int{-3, -6, -9, -18, 4}},
		// Settle takes its beats from Hold, and its steps from D; a Mu not above Rho slews by 1.
		{api.Params{D: 3, Rho: 2, Mu: 7, Hold: 10}, 1, 1, [5]int{4, 8, 20, 56, 51}},
		{api.Params{Rho: 2, Mu: 2}, 1, 1, [5]int{4, 8, 20, 32, 42}},
		{api.Params{Rho: 2, Mu: -9}, 1, 1, [5]int{4, 8, 20, 32, 42}},
		// Numbers below 0 are reckoned with as they are.
		{api.Params{Rho: -4, Eps: 5, Jitter: 1}, 2, -3, [5]int{-7, 6, 4, -34, 6}},
		{example(), -2, -1, [5]int{12, 224, 220, 512, 53}},
	} {
		if got := bounds(c.p, c.held, c.hops); got != c.want {
			t.Errorf("%+v, held %d, hops %d: %v, not %v", c.p, c.held, c.hops, got, c.want)
		}
	}
}

// TestClipped is P4.1's Hop, Gate, Width, Skew and Settle of numbers beyond: each step on the way is clipped, in the chapter's order.
func TestClipped(t *testing.T) {
	most, far := api.Most, math.MaxInt
	for _, c := range []struct {
		what      string
		got, want int
	}{
		{"Hop of a Jitter", limit.Hop(api.Params{Jitter: far}), most},
		{"Hop of a Rho", limit.Hop(api.Params{Rho: far}), most},
		{"Hop of a Rho below 0", limit.Hop(api.Params{Rho: math.MinInt}), -most},
		{"Hop of both", limit.Hop(api.Params{Jitter: far, Rho: -1}), most - 2},
		{"Hop of both ways", limit.Hop(api.Params{Jitter: far, Rho: math.MinInt}), 0},
		{"Gate of an Eps", limit.Gate(api.Params{Eps: far}), most},
		{"Gate of an Eps below 0", limit.Gate(api.Params{Eps: math.MinInt}), -most},
		// 2 Eps is clipped ahead of the sum: beside a hop of -most nothing is left.
		{"Gate of both ways", limit.Gate(api.Params{Eps: far, Jitter: math.MinInt, Rho: -1}), 0},
		{"Width of hops", limit.Width(api.Params{Jitter: 1}, 0, far), most},
		{"Width of hops of no ways", limit.Width(api.Params{Eps: 3}, far, far), 12},
		{"Width of hops below 0", limit.Width(api.Params{Jitter: 1}, 0, math.MinInt), 3 - most},
		{"Width of beats", limit.Width(api.Params{Rho: 1}, far, -1), most},
		{"Width of beats below 0", limit.Width(api.Params{Rho: 1}, math.MinInt, -1), 4 - most},
		// The gate stays at most, beats take 10, and hops give 10 back.
		{"Width from left to right", limit.Width(api.Params{Eps: far, Rho: 1}, -5, 4), most},
		// The gate is -most, beats and hops give most each.
		{"Width of three ends", limit.Width(api.Params{Eps: math.MinInt, Rho: 1 << 40}, 1<<40, far), most},
		{"Skew of an Eps", limit.Skew(api.Params{Eps: far}, 0), most},
		{"Skew of beats below 0", limit.Skew(api.Params{Rho: 1}, math.MinInt), -most},
		{"Skew of a D", limit.Skew(api.Params{D: far, Jitter: 1}, 0), most},
		{"Settle of a D", limit.Settle(api.Params{D: far}), most},
		// Twice D stays at most, also with 6, ahead of the 12 that are taken.
		{"Settle from left to right", limit.Settle(api.Params{D: far, Eps: -1}), most - 12},
		// Three times the width is clipped ahead of the division.
		{"Settle of an Eps", limit.Settle(api.Params{Eps: far, Mu: 2}), 1<<60 + 6},
		{"Settle of a Mu", limit.Settle(api.Params{Eps: far, Mu: far}), 7},
		// The difference is clipped, too: -most by most is -1; by more it would be none, up.
		{"Settle of a Mu and a Rho", limit.Settle(api.Params{Mu: far, Rho: -1 << 60}), 5},
		{"Settle of a Mu below 0", limit.Settle(api.Params{Eps: 1, Mu: math.MinInt, Rho: 0}), 18},
	} {
		if c.got != c.want {
			t.Errorf("%s is %d, not %d", c.what, c.got, c.want)
		}
	}
}

// picks hands out numbers of a list, one behind the other, by a rule that mixes them.
func picks(list []int) func() int {
	at := uint64(1)
	return func() int {
		at = at*6364136223846793005 + 1442695040888963407
		return list[at>>33%uint64(len(list))]
	}
}

// TestBoundsOfAll is P4.1's Hop, Gate, Width, Skew and Settle, of numbers of all sizes, mixed.
func TestBoundsOfAll(t *testing.T) {
	next := picks([]int{0, 0, 1, 2, 3, 5, 17, 1000, 1 << 20, 1 << 30, 1 << 40, 1<<60 - 1, 1 << 60, api.Most - 1, api.Most, api.Most + 1, 1 << 62, math.MaxInt,
		-1, -2, -7, -1000, -1 << 30, -1 << 40, -1 << 60, 1 - api.Most, -api.Most, -api.Most - 1, -1 << 62, math.MinInt})
	for range 40000 {
		p := api.Params{D: next(), Rho: next(), Jitter: next(), Eps: next(), Mu: next(), Hold: next()}
		wantBounds(t, reckon{clips: true}, p, next(), next())
		// Of the numbers that no formula names nothing hangs.
		q := p
		q.N, q.F, q.Beat, q.Delay, q.Pulse, q.Second = next(), next(), next(), next(), next(), next()
		held, hops := next(), next()
		if got, want := bounds(q, held, hops), bounds(p, held, hops); got != want {
			t.Fatalf("%+v, held %d, hops %d: %v, not %v", q, held, hops, got, want)
		}
	}
}

// mayBes are numbers that may be, from the least to the greatest ones.
func mayBes() []api.Params {
	all := []api.Params{example(), greatest(), least()}
	for _, beat := range []int{4, 8, 23, 1000, 1<<40 - 1, 1 << 40} {
		for _, rho := range []int{0, 1, beat / 16, beat / 8} {
			for _, jitter := range []int{0, 1, beat / 2} {
				for _, eps := range []int{0, 50, 1 << 40} {
					for _, mu := range []int{rho + 1, beat / 4} {
						for _, d := range []int{0, 16} {
							p := api.Params{N: 4, F: 1, D: d, Beat: beat, Rho: rho, Delay: beat / 2, Jitter: jitter, Eps: eps, Mu: mu, Hold: d + 2, Pulse: 1, Second: 1}
							if limit.Check(p) == api.OK {
								all = append(all, p, with(p, "Hold", 1<<20))
							}
						}
					}
				}
			}
		}
	}
	return all
}

// TestNothingClipped is P4.2: the bounds are those of numbers without bounds, and below api.Most.
func TestNothingClipped(t *testing.T) {
	if len(mayBes()) < 1000 {
		t.Fatalf("there are only %d", len(mayBes()))
	}
	for _, p := range mayBes() {
		for _, held := range []int{0, 1, 5, 1 << 20} {
			for _, hops := range []int{0, 1, 16, 1 << 20} {
				wantBounds(t, reckon{}, p, held, hops)
				for _, x := range bounds(p, held, hops) {
					if x < 0 || x >= api.Most {
						t.Fatalf("%+v, held %d, hops %d: %v", p, held, hops, bounds(p, held, hops))
					}
				}
			}
		}
	}
}

// TestBoundsRise is P4.2: no bound falls if one of held, hops, Rho, Jitter, Eps is greater, as long as the numbers may be.
func TestBoundsRise(t *testing.T) {
	for _, p := range mayBes() {
		for _, by := range []int{1, 3, 1 << 10} {
			for _, held := range []int{0, 7, 1<<20 - by} {
				for _, hops := range []int{0, 2, 1<<20 - by} {
					now := bounds(p, held, hops)
					noneFalls(t, now, bounds(p, held+by, hops))
					noneFalls(t, now, bounds(p, held, hops+by))
					for _, name := range []string{"Rho", "Jitter", "Eps"} {
						if more := with(p, name, *fields(&p)[name]+by); limit.Check(more) == api.OK {
							noneFalls(t, now, bounds(more, held, hops))
						}
					}
				}
			}
		}
	}
}

func noneFalls(t *testing.T, now, then [5]int) {
	t.Helper()
	for i := range now {
		if then[i] < now[i] {
			t.Fatalf("Hop, Gate, Width, Skew, Settle were %v, and are %v", now, then)
		}
	}
}

// TestBoundsGrow is P4.2: the bounds not only stay, but get greater by what the formulas say.
func TestBoundsGrow(t *testing.T) {
	p := example()
	now := bounds(p, 3, 1)
	for _, c := range []struct {
		what string
		then [5]int
		grow [5]int
	}{
		{"a beat more", bounds(p, 4, 1), [5]int{0, 0, 2, 4, 0}},
		{"a hop more", bounds(p, 3, 2), [5]int{0, 0, 12, 0, 0}},
		{"Rho", bounds(with(p, "Rho", 2), 3, 1), [5]int{2, 4, 14, 32, 6}},
		{"Jitter", bounds(with(p, "Jitter", 11), 3, 1), [5]int{1, 2, 4, 10, 1}},
		{"Eps", bounds(with(p, "Eps", 51), 3, 1), [5]int{0, 4, 4, 8, 1}},
	} {
		for i := range now {
			if c.then[i]-now[i] != c.grow[i] {
				t.Errorf("%s: %v, and then %v, which isn't by %v", c.what, now, c.then, c.grow)
			}
		}
	}
}
