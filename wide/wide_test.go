package wide_test

import (
	"cmp"
	"math"
	"math/big"
	"slices"
	"testing"

	"clepsydra/api"
	"clepsydra/wide"
)

// third times 3 is api.Most + 1.
const third = 768614336404564651

// edges are, by rising numbers, ordinary ones, those around where a word, a product of two or clipping ends, and those far beyond.
func edges() []int {
	up := []int{1, 2, 3, 5, 7, 1000, 1<<30 - 1, 1 << 30, 1<<30 + 1,
		1518500249, 1518500250, // the square of the first is below api.Most, that of the second above
		1<<32 - 1, 1 << 32, third - 1, third, 1<<60 - 1, 1 << 60, 1<<60 + 1,
		api.Most - 2, api.Most - 1, api.Most, api.Most + 1, 1 << 62, math.MaxInt - 1, math.MaxInt}
	all := []int{math.MinInt, 0}
	for _, x := range up {
		all = append(all, x, -x)
	}
	slices.Sort(all)
	return all
}

// clipped reckons without bounds, so that nothing in it can wrap.
func clipped(x *big.Int) *big.Int {
	most := big.NewInt(api.Most)
	if x.CmpAbs(most) <= 0 {
		return x
	}
	if x.Sign() < 0 {
		return new(big.Int).Neg(most)
	}
	return most
}

func number(x int) *big.Int { return clipped(big.NewInt(int64(x))) }

func divisor(c int) *big.Int { return number(max(c, 1)) }

// wantRatio: a times b, divided by c, down and up; what is left by big's DivMod is never below 0.
func wantRatio(a, b, c int) (int, int) {
	product := new(big.Int).Mul(number(a), number(b))
	down, left := new(big.Int).DivMod(product, divisor(c), new(big.Int))
	up := new(big.Int).Set(down)
	if left.Sign() != 0 {
		up.Add(up, big.NewInt(1))
	}
	return int(clipped(down).Int64()), int(clipped(up).Int64())
}

func wantCompare(a, b api.Rate) int {
	return new(big.Rat).SetFrac(number(a.Num), divisor(a.Den)).Cmp(new(big.Rat).SetFrac(number(b.Num), divisor(b.Den)))
}

// TestDiv is P2.1's Div: ordinary numbers, both signs, divisors that can't be, and the ends.
func TestDiv(t *testing.T) {
	for _, c := range []struct{ a, c, times, left int }{
		{-7, 3, -3, 2}, {7, 3, 2, 1}, {6, 3, 2, 0}, {-6, 3, -2, 0}, {-1, 3, -1, 2}, {1, 3, 0, 1}, {0, 3, 0, 0}, {2, 3, 0, 2}, {-2, 3, -1, 1}, {7, 1, 7, 0}, {-7, 1, -7, 0},
		{5, 0, 5, 0}, {5, -1, 5, 0}, {-5, -9, -5, 0}, {5, math.MinInt, 5, 0}, {0, 0, 0, 0},
		{math.MaxInt, 1, api.Most, 0}, {math.MinInt, 1, -api.Most, 0}, {math.MaxInt, 0, api.Most, 0}, {math.MinInt, -1, -api.Most, 0},
		{math.MaxInt, 3, third - 1, 2}, {math.MinInt, 3, -third, 1}, {api.Most - 1, api.Most, 0, api.Most - 1}, {-1, api.Most, -1, api.Most - 1},
		{api.Most, api.Most, 1, 0}, {-api.Most, api.Most, -1, 0},
		// A divisor is clipped, too.
		{math.MaxInt, math.MaxInt, 1, 0}, {math.MinInt, math.MaxInt, -1, 0}, {api.Most, api.Most + 1, 1, 0}, {-1, math.MaxInt, -1, api.Most - 1}, {7, math.MaxInt, 0, 7},
	} {
		if times, left := wide.Div(c.a, c.c); times != c.times || left != c.left {
			t.Errorf("Div(%d, %d) is %d, %d, not %d, %d", c.a, c.c, times, left, c.times, c.left)
		}
	}
}

// TestDivBack is P2.2's Div: what is left is from 0 to the divisor less 1, and put together again it is the number.
func TestDivBack(t *testing.T) {
	back := func(a, c int) {
		times, left := wide.Div(a, c)
		whole := new(big.Int).Mul(big.NewInt(int64(times)), divisor(c))
		whole.Add(whole, big.NewInt(int64(left)))
		if left < 0 || big.NewInt(int64(left)).Cmp(divisor(c)) >= 0 || whole.Cmp(number(a)) != 0 {
			t.Errorf("Div(%d, %d) is %d, %d", a, c, times, left)
		}
	}
	for _, a := range edges() {
		for _, c := range edges() {
			back(a, c)
		}
	}
	for a := -60; a <= 60; a++ {
		for c := -3; c <= 25; c++ {
			back(a, c)
		}
	}
}

// TestMulDivMulUp is P2.1's MulDiv and MulUp: ordinary numbers, divisors that can't be, and products that take two words.
func TestMulDivMulUp(t *testing.T) {
	for _, c := range []struct{ a, b, c, down, up int }{
		{7, 5, 3, 11, 12}, {-7, 5, 3, -12, -11}, {7, -5, 3, -12, -11}, {-7, -5, 3, 11, 12}, {6, 2, 3, 4, 4}, {-6, 2, 3, -4, -4},
		{1, 1, 3, 0, 1}, {-1, 1, 3, -1, 0}, {1, 2, 3, 0, 1}, {-1, 2, 3, -1, 0},
		{0, 5, 3, 0, 0}, {0, -5, 3, 0, 0}, {-5, 0, 3, 0, 0}, {0, math.MinInt, 1, 0, 0},
		{7, 5, 0, 35, 35}, {-7, 5, -3, -35, -35}, {7, 5, math.MinInt, 35, 35},
		{1 << 60, 1 << 60, 1 << 60, 1 << 60, 1 << 60}, {api.Most, api.Most, api.Most, api.Most, api.Most}, {-api.Most, api.Most, api.Most, -api.Most, -api.Most},
		// Where what is divided begins to be clipped: just below, at and just above it, and where it begins to be beyond a word.
		{api.Most - 1, 3, 3, api.Most - 1, api.Most - 1}, {third, 3, 1, api.Most, api.Most}, {-third, 3, 1, -api.Most, -api.Most},
		{third - 1, 3, 1, api.Most - 2, api.Most - 2}, {api.Most - 1, api.Most - 1, api.Most, api.Most - 2, api.Most - 1}, {1 - api.Most, api.Most - 1, api.Most, 1 - api.Most, 2 - api.Most},
		{2*third - 1, 3, 2, api.Most - 1, api.Most}, {2*third - 1, -3, 2, -api.Most, 1 - api.Most}, {api.Most - 1, api.Most, api.Most - 2, api.Most, api.Most},
		{1 << 32, 1 << 32, 1, api.Most, api.Most}, {-1 << 32, 1 << 32, 1, -api.Most, -api.Most}, {1 << 32, 1 << 32, 2, api.Most, api.Most},
		{1 << 40, 1 << 40, 1 << 16, api.Most, api.Most}, {1 << 40, 1 << 40, 1 << 20, 1 << 60, 1 << 60},
		{api.Most, api.Most, 1, api.Most, api.Most}, {api.Most, -api.Most, 1, -api.Most, -api.Most},
		// What goes in is clipped.
		{math.MaxInt, 1, 2, 1 << 60, 1 << 60}, {math.MinInt, 1, 2, -1 << 60, -1 << 60}, {math.MinInt, 3, 1, -api.Most, -api.Most},
		{math.MaxInt, math.MaxInt, math.MaxInt, api.Most, api.Most}, {math.MinInt, math.MinInt, math.MaxInt, api.Most, api.Most}, {api.Most, 5, math.MaxInt, 5, 5}, {1, 1, math.MaxInt, 0, 1}, {-1, 1, math.MaxInt, -1, 0},
	} {
		if got := wide.MulDiv(c.a, c.b, c.c); got != c.down {
			t.Errorf("MulDiv(%d, %d, %d) is %d, not %d", c.a, c.b, c.c, got, c.down)
		}
		if got := wide.MulUp(c.a, c.b, c.c); got != c.up {
			t.Errorf("MulUp(%d, %d, %d) is %d, not %d", c.a, c.b, c.c, got, c.up)
		}
		if got := wide.Scale(c.a, api.Rate{Num: c.b, Den: c.c}); got != c.down {
			t.Errorf("Scale(%d, {%d, %d}) is %d, not %d", c.a, c.b, c.c, got, c.down)
		}
	}
}

// TestRatios is P2.1's and P2.2's MulDiv, MulUp and Scale, of all edges: they are what numbers without bounds make, and part by one at most.
func TestRatios(t *testing.T) {
	for _, a := range edges() {
		for _, b := range edges() {
			for _, c := range edges() {
				down, up := wide.MulDiv(a, b, c), wide.MulUp(a, b, c)
				if wantDown, wantUp := wantRatio(a, b, c); down != wantDown || up != wantUp {
					t.Fatalf("%d times %d, divided by %d: %d and %d, not %d and %d", a, b, c, down, up, wantDown, wantUp)
				}
				if up < down || up > down+1 || down < -api.Most || up > api.Most {
					t.Fatalf("%d times %d, divided by %d: %d and %d", a, b, c, down, up)
				}
				if got := wide.Scale(a, api.Rate{Num: b, Den: c}); got != down {
					t.Fatalf("Scale(%d, {%d, %d}) is %d, not %d", a, b, c, got, down)
				}
			}
		}
	}
}

// TestNeverLess is P2.2: greater numbers never make less, where what they are multiplied by isn't below 0.
func TestNeverLess(t *testing.T) {
	all := edges()
	for i, x := range all[1:] {
		less := all[i]
		for _, c := range all {
			before, _ := wide.Div(less, c)
			if times, _ := wide.Div(x, c); times < before {
				t.Fatalf("Div by %d: %d makes %d, %d makes %d", c, less, before, x, times)
			}
			for _, by := range all {
				if by >= 0 {
					neverLess(t, less, x, by, c)
				}
				r := api.Rate{Num: by, Den: 1000}
				if wide.Compare(api.Rate{Num: x, Den: c}, r) < wide.Compare(api.Rate{Num: less, Den: c}, r) {
					t.Fatalf("Compare with %v: {%d, %d} is less than {%d, %d}", r, x, c, less, c)
				}
			}
		}
	}
}

func neverLess(t *testing.T, less, more, by, c int) {
	t.Helper()
	r := api.Rate{Num: by, Den: c}
	if wide.MulDiv(more, by, c) < wide.MulDiv(less, by, c) || wide.MulUp(more, by, c) < wide.MulUp(less, by, c) || wide.Scale(more, r) < wide.Scale(less, r) {
		t.Fatalf("%d times %d, divided by %d, is more than of %d", less, by, c, more)
	}
	if wide.MulDiv(by, more, c) < wide.MulDiv(by, less, c) || wide.MulUp(by, more, c) < wide.MulUp(by, less, c) {
		t.Fatalf("%d times %d, divided by %d, is more than of %d", by, less, c, more)
	}
}

// TestScale is P2.1's Scale: Num stands above Den, and a Den below 1 is 1.
func TestScale(t *testing.T) {
	for _, c := range []struct {
		x    int
		r    api.Rate
		want int
	}{
		{1000, api.Rate{Num: 3, Den: 2}, 1500}, {1000, api.Rate{Num: 2, Den: 3}, 666}, {-1000, api.Rate{Num: 2, Den: 3}, -667}, {1000, api.Rate{Num: -2, Den: 3}, -667},
		{10, api.Rate{Num: 3}, 30}, {10, api.Rate{Num: 3, Den: -7}, 30}, {10, api.Rate{}, 0}, {0, api.Rate{Num: 9, Den: 4}, 0},
		{math.MaxInt, api.Rate{Num: math.MaxInt, Den: math.MaxInt}, api.Most}, {math.MinInt, api.Rate{Num: math.MaxInt, Den: math.MinInt}, -api.Most},
	} {
		if got := wide.Scale(c.x, c.r); got != c.want {
			t.Errorf("Scale(%d, %v) is %d, not %d", c.x, c.r, got, c.want)
		}
	}
}

// TestCompare is P2.1's Compare, either way round.
func TestCompare(t *testing.T) {
	for _, c := range []struct {
		a, b api.Rate
		want int
	}{
		{api.Rate{Num: 1, Den: 2}, api.Rate{Num: 2, Den: 3}, -1}, {api.Rate{Num: -1, Den: 2}, api.Rate{Num: -2, Den: 3}, 1}, {api.Rate{Num: 2, Den: 4}, api.Rate{Num: 1, Den: 2}, 0}, {api.Rate{Num: -2, Den: 4}, api.Rate{Num: -1, Den: 2}, 0},
		{api.Rate{Num: -1, Den: 9}, api.Rate{Num: 1, Den: 9}, -1}, {api.Rate{Num: -1, Den: 9}, api.Rate{Num: 0, Den: 1}, -1}, {api.Rate{Num: 1, Den: 9}, api.Rate{Num: 0, Den: 1}, 1}, {api.Rate{Num: 7, Den: 3}, api.Rate{Num: 9, Den: 4}, 1},
		// Divisors below 1 are 1: none turns a sign round.
		{api.Rate{}, api.Rate{Den: 9}, 0}, {api.Rate{Num: -1}, api.Rate{Num: 1}, -1}, {api.Rate{Num: 3, Den: -5}, api.Rate{Num: 3, Den: 1}, 0}, {api.Rate{Num: 1, Den: math.MinInt}, api.Rate{Num: 1, Den: 2}, 1}, {api.Rate{Num: -3, Den: -5}, api.Rate{Num: 1, Den: 5}, -1},
		// Products across of two words, which part in the last place.
		{api.Rate{Num: api.Most, Den: 1}, api.Rate{Num: api.Most, Den: 2}, 1}, {api.Rate{Num: -api.Most, Den: 1}, api.Rate{Num: -api.Most, Den: 2}, -1}, {api.Rate{Num: api.Most - 1, Den: api.Most}, api.Rate{Num: api.Most - 2, Den: api.Most - 1}, 1},
		{api.Rate{Num: 1 - api.Most, Den: api.Most}, api.Rate{Num: 2 - api.Most, Den: api.Most - 1}, -1}, {api.Rate{Num: 1, Den: api.Most}, api.Rate{Num: 1, Den: api.Most - 1}, -1}, {api.Rate{Num: -1, Den: api.Most}, api.Rate{Num: 0, Den: api.Most}, -1},
		// What goes in is clipped.
		{api.Rate{Num: math.MaxInt, Den: 1}, api.Rate{Num: api.Most, Den: 1}, 0}, {api.Rate{Num: math.MinInt, Den: 1}, api.Rate{Num: -api.Most, Den: 1}, 0}, {api.Rate{Num: math.MaxInt, Den: math.MaxInt}, api.Rate{Num: 1, Den: 1}, 0}, {api.Rate{Num: 1, Den: math.MaxInt}, api.Rate{Num: 1, Den: api.Most}, 0}, {api.Rate{Num: math.MinInt, Den: math.MaxInt}, api.Rate{Num: -1, Den: 1}, 0},
	} {
		if got := wide.Compare(c.a, c.b); got != c.want {
			t.Errorf("Compare(%v, %v) is %d, not %d", c.a, c.b, got, c.want)
		}
		if got := wide.Compare(c.b, c.a); got != -c.want {
			t.Errorf("Compare(%v, %v) is %d, not %d", c.b, c.a, got, -c.want)
		}
	}
}

// TestCompareAll is P2.1's Compare, of all edges, and of all rates of small numbers, which floats tell apart.
func TestCompareAll(t *testing.T) {
	ends := slices.DeleteFunc(edges(), func(x int) bool { return x > 3 && x < 1<<30 || x < -3 && x > -1<<30 })
	for _, num := range ends {
		for _, den := range ends {
			a := api.Rate{Num: num, Den: den}
			for _, c := range []api.Rate{{Num: num, Den: den}, {Num: den, Den: num}, {Num: num - 1, Den: den}, {Num: num, Den: den - 1}, {Num: -num, Den: den}, {Num: 1, Den: 3}, {Num: -third, Den: 2}, {Num: api.Most - 1, Den: api.Most}} {
				if got, want := wide.Compare(a, c), wantCompare(a, c); got != want {
					t.Fatalf("Compare(%v, %v) is %d, not %d", a, c, got, want)
				}
			}
		}
	}
	for n := range 9 * 6 * 9 * 6 {
		a, b := api.Rate{Num: n%9 - 4, Den: n/9%6 + 1}, api.Rate{Num: n/54%9 - 4, Den: n/486%6 + 1}
		if got, want := wide.Compare(a, b), cmp.Compare(float64(a.Num)/float64(a.Den), float64(b.Num)/float64(b.Den)); got != want {
			t.Fatalf("Compare(%v, %v) is %d, not %d", a, b, got, want)
		}
	}
}
