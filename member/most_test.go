package member

import (
	"math"
	"testing"

	"clepsydra/api"
)

// TestMost is P14.1's MaxHeld, from a table that is some beats ahead of it, since nobody waits for 2^30 beats: an age stays there, and so do quiet beats.
func TestMost(t *testing.T) {
	x := New()
	x.near[7] = neighbour{age: api.MaxHeld - 3, quiet: 1}
	for _, want := range []int{1<<30 - 2, 1<<30 - 1, 1 << 30, 1 << 30, 1 << 30} {
		x.Hear(7)
		x.Tick(0)
		if age, ok := x.Age(7); age != want || !ok {
			t.Errorf("the age is %d, %v, not %d", age, ok, want)
		}
	}
	x.Hear(7)
	x.near[9] = neighbour{quiet: api.MaxHeld - 3}
	for range 9 {
		// Of so many beats at most it is never quiet for more.
		if gone := x.Tick(1 << 30); len(gone) != 0 {
			t.Errorf("there are gone %v", gone)
		}
	}
	if gone := x.Tick(1<<30 - 1); len(gone) != 1 || gone[0] != 9 {
		t.Errorf("quiet for 2^30 beats, there are gone %v", gone)
	}
	x.near[9] = neighbour{quiet: api.MaxHeld - 1}
	if gone := x.Tick(1<<30 - 1); len(gone) != 0 {
		t.Errorf("quiet for 2^30 - 1 beats, there are gone %v", gone)
	}
	if gone := x.Tick(math.MaxInt); len(gone) != 0 {
		t.Errorf("with the most patience there are gone %v", gone)
	}
}
