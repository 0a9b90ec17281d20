package sat_test

import (
	"math"
	"math/big"
	"slices"
	"testing"

	"clepsydra/api"
	"clepsydra/sat"
)

// edges are ordinary numbers, those around where clipping begins and where a product of two begins to be clipped, and those far beyond.
func edges() []int {
	up := []int{0, 1, 2, 3, 7, 1000, 1 << 30, 1<<30 + 1, 1 << 31,
		1518500249, 1518500250, // the square of the first is below api.Most, that of the second above
		3037000499, 3037000500, // likewise of the greatest int
		1 << 32, 1 << 60, 1<<60 + 1,
		api.Most - 1, api.Most, api.Most + 1, 3 << 60, 1 << 62, 1<<62 + 1, math.MaxInt - 1, math.MaxInt}
	all := []int{math.MinInt}
	for _, x := range up {
		all = append(all, x)
		if x != 0 {
			all = append(all, -x)
		}
	}
	return all
}

// clipped reckons without bounds, so that nothing in it can wrap.
func clipped(x *big.Int) int {
	most := big.NewInt(api.Most)
	if x.Cmp(most) > 0 {
		return api.Most
	}
	if x.Cmp(new(big.Int).Neg(most)) < 0 {
		return -api.Most
	}
	return int(x.Int64())
}

func clippedBig(x int) *big.Int { return big.NewInt(int64(clipped(big.NewInt(int64(x))))) }

func clippedSum(list ...int) int {
	sum := 0
	for _, x := range list {
		sum = clipped(new(big.Int).Add(big.NewInt(int64(sum)), clippedBig(x)))
	}
	return sum
}

func beyond(x int) bool { return x > api.Most || x < -api.Most }

// TestClip is P1.1's Clip.
func TestClip(t *testing.T) {
	for _, c := range []struct{ x, want int }{
		{0, 0}, {1, 1}, {-1, -1}, {12345, 12345}, {-12345, -12345},
		{api.Most - 1, api.Most - 1}, {api.Most, api.Most}, {api.Most + 1, api.Most},
		{-api.Most + 1, -api.Most + 1}, {-api.Most, -api.Most}, {-api.Most - 1, -api.Most},
		{1 << 62, api.Most}, {-1 << 62, -api.Most}, {math.MaxInt, api.Most}, {math.MinInt, -api.Most},
	} {
		if got := sat.Clip(c.x); got != c.want {
			t.Errorf("Clip(%d) is %d, not %d", c.x, got, c.want)
		}
	}
}

// TestBound is P1.1's Bound, which alone takes and answers numbers beyond api.Most as they are.
func TestBound(t *testing.T) {
	for _, c := range []struct{ x, lo, hi, want int }{
		{3, 1, 5, 3}, {0, 1, 5, 1}, {9, 1, 5, 5}, {1, 1, 5, 1}, {5, 1, 5, 5}, {6, 1, 5, 5},
		{4, 4, 4, 4}, {3, 4, 4, 4}, {5, 4, 4, 4}, {-7, -5, -2, -5}, {-3, -5, -2, -3}, {0, -5, -2, -2},
		// hi below lo: lo, wherever x is.
		{0, 5, 1, 5}, {1, 5, 1, 5}, {3, 5, 1, 5}, {5, 5, 1, 5}, {9, 5, 1, 5}, {0, math.MaxInt, math.MinInt, math.MaxInt},
		{math.MaxInt, 0, math.MaxInt, math.MaxInt}, {math.MinInt, math.MinInt, 0, math.MinInt},
		{0, api.Most + 1, math.MaxInt, api.Most + 1}, {0, math.MinInt, -api.Most - 1, -api.Most - 1},
		{api.Most + 2, api.Most + 1, api.Most + 3, api.Most + 2}, {math.MaxInt, math.MinInt, 7, 7}, {math.MinInt, -7, math.MaxInt, -7},
	} {
		if got := sat.Bound(c.x, c.lo, c.hi); got != c.want {
			t.Errorf("Bound(%d, %d, %d) is %d, not %d", c.x, c.lo, c.hi, got, c.want)
		}
	}
}

// TestAdd is P1.1's Add: its numbers are clipped, and so is each sum on the way.
func TestAdd(t *testing.T) {
	for _, c := range []struct {
		list []int
		want int
	}{
		{nil, 0}, {[]int{}, 0}, {[]int{7}, 7}, {[]int{3, 4, -2}, 5}, {[]int{-3, -4}, -7},
		{[]int{math.MaxInt}, api.Most}, {[]int{math.MinInt}, -api.Most},
		{[]int{api.Most, 1, -1}, api.Most - 1}, {[]int{1, -1, api.Most}, api.Most}, {[]int{-1, api.Most, 1}, api.Most},
		{[]int{-api.Most, -1, 1}, -api.Most + 1}, {[]int{api.Most - 1, 1}, api.Most}, {[]int{api.Most - 1, 2}, api.Most},
		{[]int{math.MaxInt, math.MaxInt}, api.Most}, {[]int{math.MinInt, math.MinInt}, -api.Most},
		{[]int{math.MaxInt, math.MinInt}, 0}, {[]int{math.MaxInt, -5}, api.Most - 5}, {[]int{math.MinInt, 5, 5}, -api.Most + 10},
	} {
		if got := sat.Add(c.list...); got != c.want {
			t.Errorf("Add(%v) is %d, not %d", c.list, got, c.want)
		}
	}
	for _, a := range edges() {
		for _, b := range edges() {
			for _, c := range edges() {
				if got, want := sat.Add(a, b, c), clippedSum(a, b, c); got != want {
					t.Fatalf("Add(%d, %d, %d) is %d, not %d", a, b, c, got, want)
				}
			}
		}
	}
}

// TestAddLong is P1.1's Add of many: none is passed over, and nothing piles up to a wrap.
func TestAddLong(t *testing.T) {
	ones, high, low := make([]int, 5000), make([]int, 5000), make([]int, 5000)
	for i := range ones {
		ones[i], high[i], low[i] = 1, math.MaxInt, math.MinInt
	}
	if got := sat.Add(ones...); got != 5000 {
		t.Errorf("5000 ones make %d", got)
	}
	if got := sat.Add(high...); got != api.Most {
		t.Errorf("the greatest numbers make %d", got)
	}
	if got := sat.Add(low...); got != -api.Most {
		t.Errorf("the least numbers make %d", got)
	}
}

// TestSubMul is P1.1's Sub and Mul.
func TestSubMul(t *testing.T) {
	const third = 768614336404564651
	for _, c := range []struct{ a, b, sub, mul int }{
		{0, 0, 0, 0}, {1, 4, -3, 4}, {-6, 7, -13, -42}, {-6, -7, 1, 42}, {6, -7, 13, -42},
		{-3, api.Most, -api.Most, -api.Most}, {api.Most, 1, api.Most - 1, api.Most}, {-api.Most, 1, -api.Most, -api.Most},
		{api.Most - 1, -1, api.Most, -api.Most + 1}, {api.Most - 1, -2, api.Most, -api.Most},
		{1 << 30, 1 << 31, -1 << 30, api.Most}, {1 << 30, 1 << 30, 0, 1 << 60}, {1 << 30, -(1<<31 + 1), 3<<30 + 1, -api.Most},
		{1<<31 - 1, 1 << 30, 1<<30 - 1, api.Most - 1<<30}, {1 << 32, 1 << 32, 0, api.Most}, {1 << 60, 1 << 4, 1<<60 - 16, api.Most},
		// Products that are api.Most, and just above and just below it: 3 times 768614336404564651 is api.Most + 1.
		{2, 1 << 60, 2 - 1<<60, api.Most}, {-2, 1 << 60, -2 - 1<<60, -api.Most},
		{3, third, 3 - third, api.Most}, {-3, third, -3 - third, -api.Most}, {3, third - 1, 4 - third, api.Most - 2}, {-3, third - 1, -2 - third, -api.Most + 2},
		{0, math.MinInt, api.Most, 0}, {0, math.MaxInt, -api.Most, 0}, {math.MinInt, 0, -api.Most, 0},
		{math.MinInt, math.MinInt, 0, api.Most}, {math.MaxInt, math.MaxInt, 0, api.Most}, {math.MinInt, math.MaxInt, -api.Most, -api.Most},
		{math.MaxInt, 1, api.Most - 1, api.Most}, {math.MaxInt, -1, api.Most, -api.Most}, {math.MinInt, -1, -api.Most + 1, api.Most},
	} {
		if got := sat.Sub(c.a, c.b); got != c.sub {
			t.Errorf("Sub(%d, %d) is %d, not %d", c.a, c.b, got, c.sub)
		}
		if got := sat.Mul(c.a, c.b); got != c.mul {
			t.Errorf("Mul(%d, %d) is %d, not %d", c.a, c.b, got, c.mul)
		}
	}
	for _, a := range edges() {
		for _, b := range edges() {
			x, y := clippedBig(a), clippedBig(b)
			if got, want := sat.Sub(a, b), clipped(new(big.Int).Sub(x, y)); got != want {
				t.Errorf("Sub(%d, %d) is %d, not %d", a, b, got, want)
			}
			if got, want := sat.Mul(a, b), clipped(new(big.Int).Mul(x, y)); got != want {
				t.Errorf("Mul(%d, %d) is %d, not %d", a, b, got, want)
			}
		}
	}
}

// TestNegAbs is P1.1's Neg and Abs.
func TestNegAbs(t *testing.T) {
	for _, c := range []struct{ a, neg, abs int }{
		{0, 0, 0}, {5, -5, 5}, {-5, 5, 5},
		{api.Most - 1, -api.Most + 1, api.Most - 1}, {api.Most, -api.Most, api.Most}, {api.Most + 1, -api.Most, api.Most},
		{-api.Most + 1, api.Most - 1, api.Most - 1}, {-api.Most, api.Most, api.Most}, {-api.Most - 1, api.Most, api.Most},
		{math.MaxInt, -api.Most, api.Most}, {math.MinInt, api.Most, api.Most}, {math.MinInt + 1, api.Most, api.Most},
	} {
		if got := sat.Neg(c.a); got != c.neg {
			t.Errorf("Neg(%d) is %d, not %d", c.a, got, c.neg)
		}
		if got := sat.Abs(c.a); got != c.abs {
			t.Errorf("Abs(%d) is %d, not %d", c.a, got, c.abs)
		}
	}
}

// TestMaxMin is P1.1's Max and Min.
func TestMaxMin(t *testing.T) {
	for _, c := range []struct {
		list      []int
		most, low int
	}{
		{nil, -api.Most, api.Most}, {[]int{}, -api.Most, api.Most}, {[]int{7}, 7, 7}, {[]int{-7}, -7, -7},
		{[]int{4, -9, 2}, 4, -9}, {[]int{-9, 2, 4}, 4, -9}, {[]int{2, 4, -9}, 4, -9}, {[]int{3, 3}, 3, 3},
		{[]int{-5, -8}, -5, -8}, {[]int{5, 8}, 8, 5}, {[]int{0, 0, 1}, 1, 0},
		{[]int{math.MaxInt}, api.Most, api.Most}, {[]int{math.MinInt}, -api.Most, -api.Most},
		{[]int{math.MinInt, math.MaxInt}, api.Most, -api.Most}, {[]int{api.Most + 1, math.MaxInt}, api.Most, api.Most},
		{[]int{-api.Most - 1, math.MinInt}, -api.Most, -api.Most}, {[]int{api.Most - 1, api.Most}, api.Most, api.Most - 1},
		{[]int{-api.Most, -api.Most + 1}, -api.Most + 1, -api.Most}, {[]int{api.Most + 1, 0}, api.Most, 0}, {[]int{0, -api.Most - 1}, 0, -api.Most},
	} {
		if got := sat.Max(c.list...); got != c.most {
			t.Errorf("Max(%v) is %d, not %d", c.list, got, c.most)
		}
		if got := sat.Min(c.list...); got != c.low {
			t.Errorf("Min(%v) is %d, not %d", c.list, got, c.low)
		}
	}
}

// TestNoneBeyond is P1.2: no answer but Bound's is beyond api.Most.
func TestNoneBeyond(t *testing.T) {
	for _, a := range edges() {
		for _, b := range edges() {
			for name, got := range map[string]int{
				"Clip": sat.Clip(a), "Neg": sat.Neg(a), "Abs": sat.Abs(a), "Add of one": sat.Add(a), "Max of one": sat.Max(a), "Min of one": sat.Min(a),
				"Add": sat.Add(a, b), "Sub": sat.Sub(a, b), "Mul": sat.Mul(a, b), "Max": sat.Max(a, b), "Min": sat.Min(a, b),
			} {
				if beyond(got) {
					t.Errorf("%s(%d, %d) is %d, beyond api.Most", name, a, b, got)
				}
			}
		}
	}
}

// TestPlain is P1.2: where nothing is clipped, sums and products are those of numbers.
func TestPlain(t *testing.T) {
	for a := -40; a <= 40; a++ {
		for b := -40; b <= 40; b++ {
			for _, far := range []int{1, 1 << 20, 1 << 25} {
				x, y := a*far+b, b*far-a
				if sat.Add(x, y) != x+y || sat.Sub(x, y) != x-y || sat.Mul(x, y) != x*y {
					t.Fatalf("%d and %d: %d, %d, %d", x, y, sat.Add(x, y), sat.Sub(x, y), sat.Mul(x, y))
				}
			}
		}
	}
	for _, x := range edges() {
		if !beyond(x) && (sat.Add(x, 0) != x || sat.Sub(x, 0) != x || sat.Mul(x, 1) != x || sat.Mul(-1, x) != -x) {
			t.Errorf("%d: %d, %d, %d, %d", x, sat.Add(x, 0), sat.Sub(x, 0), sat.Mul(x, 1), sat.Mul(-1, x))
		}
	}
}

// TestListsStay: what is handed in isn't changed, spare room included.
func TestListsStay(t *testing.T) {
	whole := []int{math.MaxInt, 3, math.MinInt, -api.Most - 1, math.MaxInt, 99}
	want := slices.Clone(whole)
	sat.Add(whole[:4]...)
	sat.Max(whole[:4]...)
	sat.Min(whole[:4]...)
	if !slices.Equal(whole, want) {
		t.Errorf("%v became %v", want, whole)
	}
}
