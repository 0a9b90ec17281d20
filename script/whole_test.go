package script_test

import (
	"fmt"
	"slices"
	"strconv"
	"strings"
	"testing"

	"clepsydra/api"
	"clepsydra/limit"
)

// numbers are those of four.
func numbers() api.Params {
	return api.Params{N: 4, F: 1, D: 2, Beat: 1000, Rho: 1, Delay: 100, Jitter: 10, Eps: 50, Mu: 20, Hold: 5, Pulse: 5000, Second: 1000}
}

// chain are four gateways, a node that hears them, and three others, one behind the other; the last one is too far away.
func chain() []string {
	return []string{four, "core 0", "link 0 1", "link 2 1", "link 2 3", "start 4"}
}

// steps are how far the units of chain are from the core; -1: further than they may.
func steps() map[int]int {
	return map[int]int{0: 0, 1: 0, 2: 0, 3: 0, 16: 0, 17: 1, 18: 2, 19: -1}
}

// goes lets beats go by, from a true time on; three gateways read it, as wrong as they may, and the fourth reads whatever it likes.
func goes(now, beats int) []string {
	var out []string
	for i := range beats {
		now += 1000
		for gate, off := range []int{-50, 50, 37*i%101 - 50, 900000 * (i%7 - 3)} {
			out = append(out, line("read", gate, now+off))
		}
		out = append(out, "beat")
	}
	return out
}

// wantHas asks units for their spans and clocks, behind a script at whose end it is some time: it must be in them, and they aren't wider than they may be, if an anchor was so many beats ago.
func wantHas(t *testing.T, now, held int, lines ...string) {
	t.Helper()
	asks := []string{"time"}
	for who := range steps() {
		asks = append(asks, line("health", who), line("span", who), line("now", who))
	}
	said := plays(t, append(lines, asks...)...)[len(lines):]
	if said[0] != strconv.Itoa(now) {
		t.Fatalf("the true time is %s, not %d", said[0], now)
	}
	for i := 1; i < len(asks); i += 3 {
		var who int
		fmt.Sscanf(asks[i], "health %d", &who)
		if steps()[who] < 0 {
			if !slices.Equal(said[i:i+3], []string{"boot", "error 20", "error 20"}) {
				t.Errorf("the unit %d, which is too far away, says %q", who, said[i:i+3])
			}
			continue
		}
		var lo, hi, at int
		fmt.Sscan(said[i+1]+" "+said[i+2], &lo, &hi, &at)
		if said[i] == "boot" || now < lo || now > hi || hi-lo > limit.Width(numbers(), held, steps()[who]) || 2*max(at-now, now-at) > limit.Skew(numbers(), 5) {
			t.Errorf("at %d the unit %d says %q", now, who, said[i:i+3])
		}
	}
}

// begins are commands by which all units hold a span of years ago, clocks that are far off, and say that all is well.
func begins() []string {
	var out []string
	for who := range steps() {
		out = append(out, line("begin", who, -1<<50-9*who, -1<<50, 1<<(40+who), 0, 0, 1))
	}
	return out
}

// TestInTime is P1 of the whole, by scripts: behind Settle beats it is all as if nothing had been held, and one gateway may say whatever it likes.
func TestInTime(t *testing.T) {
	n := limit.Settle(numbers())
	whatever, nothing := slices.Concat(chain(), begins(), goes(0, n)), slices.Concat(chain(), goes(0, n))
	for i := range 3 {
		wantHas(t, 1000*(n+i), 0, slices.Concat(whatever, goes(1000*n, i))...)
	}
	var asks []string
	for who := range steps() {
		asks = append(asks, line("span", who), line("health", who))
	}
	one, other := plays(t, append(whatever, asks...)...), plays(t, append(nothing, asks...)...)
	if !slices.Equal(one[len(whatever):], other[len(nothing):]) {
		t.Errorf("of what was held is left: %q, not %q", one[len(whatever):], other[len(nothing):])
	}
}

// TestHoldover is P2: without references spans get wider, and health says so behind Hold beats; with them all is well again.
func TestHoldover(t *testing.T) {
	n := 60
	settled := slices.Concat(chain(), goes(0, n))
	for beats := range 14 {
		lines := append(slices.Clone(settled), count(beats, "beat")...)
		wantHas(t, 1000*(n+beats), beats+1, lines...)
		// What was read in the last beat with references leads in the next one, too.
		health := "synced"
		if beats-1 > numbers().Hold {
			health = "holdover"
		}
		said := plays(t, append(lines, "health 0", "health 3")...)[len(lines):]
		if !slices.Equal(said, []string{health, health}) {
			t.Errorf("%d beats without references the gateways say %q", beats, said)
		}
	}
	back := slices.Concat(settled, count(14, "beat"), goes(1000*(n+14), 6))
	wantHas(t, 1000*(n+20), 0, back...)
	for _, who := range []int{0, 3, 16, 17, 18} {
		if said := plays(t, append(back, line("health", who))...)[len(back)]; said != "synced" {
			t.Errorf("with references again the unit %d says %s", who, said)
		}
	}
}

// TestCutOff is the sixth example of the whole: users of a node that is cut off are told ErrSync, and nothing wrong.
func TestCutOff(t *testing.T) {
	cut := slices.Concat(chain(), goes(0, 20), []string{"cut 1 0"}, goes(20000, 4))
	wantSaid(t, "it is cut off", slices.Concat(cut, []string{"health 16: synced", "health 17: boot", "health 18: boot", "now 17: error 20", "span 17: error 20", "utc 17: error 20", "pulse 18: error 20", "health 0: synced"})...)
}

// TestLeaps is P3: what right gateways are given all units that count have, and what only one tells is nobody's.
func TestLeaps(t *testing.T) {
	second, day, later := "1970-01-01 23:59:60", "1970-01-02 00:00:00", "1970-01-02 00:00:01"
	for _, x := range []struct {
		what   string
		tables []string
		labels []string
	}{
		{"none", nil, []string{day, later}},
		{"all", []string{"table 0 86401 1", "table 1 86401 1", "table 2 86401 1", "table 3 86401 1"}, []string{second, day}},
		{"all but one that lies", []string{"table 0 86401 1", "table 1 86401 1", "table 2 86401 1", "table 3 86399 -1"}, []string{second, day}},
		{"one that lies", []string{"table 3 86401 1"}, []string{day, later}},
	} {
		lines := slices.Concat(chain(), []string{"set 86380500"}, x.tables, goes(86380500, 19))
		for i, want := range x.labels {
			lines = append(lines, goes(86399500+1000*i, 1)...)
			for _, who := range []int{0, 1, 2, 16, 17, 18} {
				if said := plays(t, append(lines, line("utc", who))...); said[len(lines)] != want {
					t.Errorf("%s: %d beats behind the day's last second the unit %d says %s, not %s", x.what, i, who, said[len(lines)], want)
				}
			}
		}
	}
}

// TestStamps is P4: behind beats stamps rise, beat by beat, also of units whose clocks are slewed back.
func TestStamps(t *testing.T) {
	lines := slices.Concat(chain(), begins(), goes(0, 53))
	for i := range 5 {
		for who, hops := range steps() {
			if hops >= 0 {
				lines = append(lines, line("stamp", who), line("stamp", who))
			}
		}
		lines = append(lines, goes(53000+1000*i, 1)...)
	}
	last, first := map[string][2]int{}, 6+len(begins())
	for i, said := range plays(t, lines...)[first:] {
		ask := lines[first+i]
		if !strings.HasPrefix(ask, "stamp") {
			continue
		}
		var s [2]int
		fmt.Sscan(said, &s[0], &s[1])
		was, is := last[ask]
		if is && slices.Compare(s[:], was[:]) <= 0 {
			t.Errorf("%s says %s, behind %v", ask, said, was)
		}
		last[ask] = s
	}
	if len(last) != 7 {
		t.Errorf("stamps were told of %d units", len(last))
	}
}
