package script_test

import (
	"math"
	"slices"
	"strconv"
	"strings"
	"testing"

	"clepsydra/api"
	"clepsydra/script"
)

// Some numbers of a fabric: with one gateway, whose reading is right away its time, and with four, of whom one may say whatever it likes.
const (
	alone = "params 1 0 4 1000 1 100 10 50 20 6 5000 1000"
	four  = "params 4 1 2 1000 1 100 10 50 20 5 5000 1000"
)

// plays is what a script of such lines says, line by line; it must be one.
func plays(t *testing.T, lines ...string) []string {
	t.Helper()
	out, n, e := script.Run(strings.Join(lines, "\n"))
	if n != 0 || e != api.OK {
		t.Fatalf("line %d, error %d, of\n%s", n, e, strings.Join(lines, "\n"))
	}
	if out != "" && !strings.HasSuffix(out, "\n") {
		t.Fatalf("no line feed at the end of %q", out)
	}
	said := strings.Split(out, "\n")
	return said[:len(said)-1]
}

// wantSaid plays commands, each with what it says behind ": "; "ok" where nothing stands.
func wantSaid(t *testing.T, what string, list ...string) {
	t.Helper()
	var lines, want []string
	for _, s := range list {
		line, said, is := strings.Cut(s, ": ")
		if !is {
			said = "ok"
		}
		lines, want = append(lines, line), append(want, said)
	}
	got := plays(t, lines...)
	if len(got) != len(want) {
		t.Fatalf("%s: %d commands say %d lines", what, len(want), len(got))
	}
	for i := range want {
		if got[i] != want[i] {
			t.Errorf("%s: %q, line %d, says %q, not %q", what, lines[i], i+1, got[i], want[i])
		}
	}
}

// wantLine holds a script to be none, by its line n.
func wantLine(t *testing.T, s string, n int) {
	t.Helper()
	if out, i, e := script.Run(s); out != "" || i != n || e != api.ErrLine {
		t.Errorf("%.60q, of %d bytes: %q, %d, %d, and not the line %d", s, len(s), out, i, e, n)
	}
}

// wantText holds what a script says, to the byte.
func wantText(t *testing.T, s, want string) {
	t.Helper()
	if out, n, e := script.Run(s); out != want || n != 0 || e != api.OK {
		t.Errorf("%.60q, of %d bytes: %.60q, %d, %d, not %.60q", s, len(s), out, n, e, want)
	}
}

// count is so many times a list.
func count(n int, list ...string) []string { return slices.Repeat(list, n) }

// TestExamples are the chapter's, and README.md's.
func TestExamples(t *testing.T) {
	wantSaid(t, "at first", "health 0: boot", "now 0: error 2", "beat: error 2", alone, "start 1", "beat")
	wantLine(t, "beat 1", 1)
	wantSaid(t, "README.md's", alone, "core 0", "link 0 1", "start 2", "set 86399000", "read 0 86400000", "table 0 86401 1", "beat", "utc 0: 1970-01-01 23:59:60", "health 16: boot", "beat", "span 16: 86400939 86401051",
		"health 16: synced", "now 17: error 20", "begin 17 5 9 7 0 0 1", "now 17: 7", "time: 86401000")
	wantLine(t, "time\n\nbeat 1", 3)
}

// words are all commands, with how many numbers each has; table has that many at least, and two more as often as one likes.
func words() map[string]int {
	return map[string]int{"params": 12, "core": 1, "link": 2, "start": 1, "read": 2, "table": 1, "tick": 2, "age": 3, "lose": 2, "off": 1, "cut": 2, "join": 2,
		"beat": 0, "set": 1, "begin": 7, "time": 0, "now": 1, "span": 1, "utc": 1, "pulse": 1, "stamp": 1, "health": 1}
}

// TestHowMany is P25.1 of how many numbers stand behind each word: just as many as the table tells.
func TestHowMany(t *testing.T) {
	for word, most := range words() {
		for n := range 90 {
			line := word + strings.Repeat(" 1", n)
			if out, i, e := script.Run(line); n == most || word == "table" && n%2 == 1 {
				if i != 0 || e != api.OK || strings.Count(out, "\n") != 1 {
					t.Errorf("%q: %q, %d, %d", line, out, i, e)
				}
			} else if out != "" || i != 1 || e != api.ErrLine {
				t.Errorf("%q: %q, %d, %d, and no command has so many numbers", line, out, i, e)
			}
		}
	}
}

// TestWords is P25.1 of words that are no commands, whatever stands behind them.
func TestWords(t *testing.T) {
	for _, word := range []string{"what", "Beat", "BEAT", "beats", "bea", "be at", "beat\x00", "\x00beat", "b\u0435at", "beat\r", "beat\t", "\tbeat", "\ufeffbeat", "beat;", "#", "# beat", "//", "ok", "error",
		"boot", "put", "lie", "lies", "new", "front", "interval", "listen", "step", "ticks", "reads", "lost", "given", "0", "1", "-1", "now0", "now,", "\xff", "\v", "\r", strings.Repeat("beat", 16000)} {
		for n := range 14 {
			wantLine(t, "time\n"+word+strings.Repeat(" 1", n)+"\ntime", 2)
		}
	}
	for word, n := range words() {
		for _, s := range []string{strings.ToUpper(word), strings.ToUpper(word[:1]) + word[1:], word + "s", word[:len(word)-1], word[1:], word + word, word + "\r"} {
			wantLine(t, s+strings.Repeat(" 1", n), 1)
		}
	}
}

// TestBlanks is P25.1 of blanks: one ahead of each number, and none elsewhere.
func TestBlanks(t *testing.T) {
	for _, s := range []string{" ", "  ", " time", "time ", "time  ", "\ttime", " beat", "beat ", "set  5", "set 5 ", " set 5", "set\t5", "set\u00a05", "set 5\r", "set 5\t", "set5", "set ", "set", "link 1  2", "link 1 2 ", "link 1,2",
		"link 1\t2", "link  1 2", "table 0 ", "table 0  1 2", "table 0 1 2 ", "table  0", "\r", "\v", "\x00", "core 0 "} {
		wantLine(t, s, 1)
		wantLine(t, "\n\n"+s+"\n", 3)
	}
}

// TestNumbers is P25.1 of how numbers are written: in one way each, from -2^63 to 2^63 - 1.
func TestNumbers(t *testing.T) {
	begins := func(s string) []string { return []string{alone, "start 0", "set " + s, "time"} }
	for _, x := range []struct {
		s    string
		time int
	}{{"0", 0}, {"1", 1}, {"-1", -1}, {"9", 9}, {"10", 10}, {"-10", -10}, {"100", 100}, {"1000000007", 1000000007}, {"2305843009213693951", 1<<61 - 1}, {"2305843009213693952", 1 << 61}, {"2305843009213693953", 1 << 61},
		{"-2305843009213693951", 1 - 1<<61}, {"-2305843009213693953", -1 << 61}, {"9223372036854775807", 1 << 61}, {"-9223372036854775807", -1 << 61}, {"-9223372036854775808", -1 << 61}} {
		if said := plays(t, begins(x.s)...); said[3] != strconv.Itoa(x.time) {
			t.Errorf("set to %s it is %s, not %d", x.s, said[3], x.time)
		}
	}
	for _, s := range []string{"", "-", "--1", "- 1", "+1", "+0", "-0", "00", "01", "-01", "-00", "007", "0x1", "1_000", "1e3", "1.0", "1.", ".5", "1,0", "1-", "1-1", "one", "0b1", "0o7", "a", "\u0661", "\uff11", "\u22121", "1\x00", "\x001", "1\r",
		"9223372036854775808", "9223372036854775809", "-9223372036854775809", "18446744073709551616", "18446744073709551617", "-18446744073709551615", "99999999999999999999", "1" + strings.Repeat("0", 60000), "-" + strings.Repeat("9", 60000),
		strings.Repeat("0", 60000) + "1", "NaN", "Inf", "nil", "true", "0 0"} {
		wantLine(t, strings.Join(begins(s), "\n"), 3)
	}
	// Wherever a number stands, it must be one.
	for word, n := range words() {
		if word == "table" {
			n = 5
		}
		for i := range n {
			for _, wrong := range []string{"x", "+1", "01", "-0", "9223372036854775808"} {
				line := append([]string{word}, slices.Repeat([]string{"1"}, n)...)
				line[i+1] = wrong
				wantLine(t, strings.Join(line, " "), 1)
			}
		}
	}
}

// TestLines is P25.1 and P25.2 of lines: each command says one, and lines without bytes none.
func TestLines(t *testing.T) {
	wantText(t, "", "")
	wantText(t, "\n", "")
	wantText(t, "\n\n\n", "")
	wantText(t, "time", "0\n")
	wantText(t, "time\n", "0\n")
	wantText(t, "\ntime", "0\n")
	wantText(t, "\n\ntime\n\n\ntime\n\n", "0\n0\n")
	wantText(t, "time\nhealth 5\nbeat\ncore 1", "0\nboot\nerror 2\nok\n")
	for word, n := range words() {
		for _, ahead := range []string{"", alone + "\nstart 3\nbegin 1 5 6 7 0 0 1\n"} {
			out := plays(t, strings.Split(ahead+word+strings.Repeat(" 1", n), "\n")...)
			if len(out) != 1+strings.Count(ahead, "\n") || slices.Contains(out, "") {
				t.Errorf("%q and %s say %q", ahead, word, out)
			}
		}
	}
}

// TestMost is P25.1 of as many commands, and bytes, as there may be, and one more.
func TestMost(t *testing.T) {
	wantText(t, strings.Repeat("time\n", 512), strings.Repeat("0\n", 512))
	wantText(t, strings.Repeat("\n\ntime\n", 512)+"\n\n", strings.Repeat("0\n", 512))
	wantLine(t, strings.Repeat("time\n", 513), 513)
	wantLine(t, strings.Repeat("time\n", 600)+"what", 513)
	wantLine(t, strings.Repeat("\ntime\n", 513), 1026)
	wantLine(t, strings.Repeat("time\n", 512)+"\n\n\ntime", 516)
	wantLine(t, strings.Repeat("time\n", 512)+"what", 513)
	wantLine(t, strings.Repeat("time\n", 511)+"what\ntime\ntime", 512)
	wantLine(t, "what\n"+strings.Repeat("time\n", 600), 1)
	wantText(t, strings.Repeat("\n", 65536), "")
	wantText(t, strings.Repeat("\n", 65532)+"time", "0\n")
	wantLine(t, strings.Repeat("\n", 65535)+"x", 65536)
	wantLine(t, strings.Repeat("x", 65536), 1)
	wantLine(t, strings.Repeat(" ", 65536), 1)
	wantText(t, "table 0"+strings.Repeat(" 1 2", 16382)+"\n", "ok\n")
	for _, s := range []string{strings.Repeat("\n", 65537), strings.Repeat("x", 65537), "what\n" + strings.Repeat("\n", 65536), strings.Repeat("time\n", 20000), strings.Repeat("\n", 65533) + "time", strings.Repeat("x", 1<<22)} {
		if out, n, e := script.Run(s); out != "" || n != 0 || e != api.ErrLong {
			t.Errorf("%d bytes: %q, %d, %d", len(s), out, n, e)
		}
	}
}

// TestWrongLine is P25.3: the first line that is no command is told, whatever stands ahead or behind.
func TestWrongLine(t *testing.T) {
	lines := strings.Split(alone+"\n\ncore 0\nlink 0 1\nstart 2\n\n\nset 70000\nread 0 80000\ntable 0 86401 1\nbeat\nnow 0\nspan 0\n\nutc 0\nstamp 0\nhealth 0\nstart 99\nbegin 0 1 2 3 4 5 6\ntime", "\n")
	plays(t, lines...)
	for i := range len(lines) + 1 {
		for _, wrong := range []string{"what", "beat 1", "time 01", " ", "table 1 2", "core -0", "params 1", "\r"} {
			wantLine(t, strings.Join(slices.Insert(slices.Clone(lines), i, wrong), "\n"), i+1)
			for j := i + 1; j <= len(lines)+1; j++ {
				two := slices.Insert(slices.Insert(slices.Clone(lines), i, wrong), j, "what")
				wantLine(t, strings.Join(two, "\n"), i+1)
			}
		}
	}
}

// TestApart is rule 4: what a script says hangs on it alone, and nothing is left of one that was played, or wasn't.
func TestApart(t *testing.T) {
	first := strings.Join([]string{alone, "core 0", "link 0 1", "start 2", "set 5", "read 0 6", "beat", "tick 0 7", "stamp 0", "stamp 0"}, "\n")
	was, _, _ := script.Run(first)
	for range 3 {
		wantSaid(t, "a new world", "time: 0", "stamp 0: error 2", "beat: error 2", "start 2: error 1", "health 0: boot")
		wantLine(t, first+"\nwhat", 11)
		wantText(t, first, was)
	}
	wantSaid(t, "without the cores of another script", alone, "start 2", "read 0 5000", "beat", "beat", "health 0: synced", "health 16: boot")
}

// TestAheadOfStart is P25.1 of a nil world.
func TestAheadOfStart(t *testing.T) {
	wantSaid(t, "at first", "time: 0", "set 5", "time: 0", "begin 0 1 2 3 0 0 1", "health 0: boot", "health 16: boot", "health -1: boot", "now 0: error 2", "span 0: error 2", "utc 0: error 2", "pulse 0: error 2", "stamp 0: error 2", "stamp 16: error 2",
		"beat: error 2", "time: 0", "tick 0 5", "off 0", "cut 0 1", "join 0 1", "lose 0 1", "age 0 1 5", "read 0 5", "table 0", "beat: error 2")
	wantSaid(t, "what was told to it", "set 5", "begin 0 4 6 5 0 0 1", alone, "start 1", "time: 0", "health 0: boot")
	// The beat that there was no world for took its step with it.
	wantSaid(t, "a step that is gone", alone, "read 0 5000", "beat: error 2", "start 1", "beat", "health 0: boot")
	wantSaid(t, "a step that isn't", alone, "read 0 5000", "start 1", "beat", "health 0: synced", "now 0: 5000")
}

// TestStart is P25.1's start: all numbers 0 at first, the last ones that were told, and how many nodes there may be.
func TestStart(t *testing.T) {
	wantSaid(t, "no numbers", "start 0: error 1", "start 1: error 1", "time: 0", "beat: error 2")
	wantSaid(t, "nodes", alone, "start 0", "start 32", "start 33: error 1", "start -1: error 1", "start 9223372036854775807: error 1", "start -9223372036854775808: error 1")
	wantSaid(t, "the last numbers", "params 0 0 0 0 0 0 0 0 0 0 0 0", "start 1: error 1", alone, "start 1", four, "start 1", "params 3 1 2 1000 1 100 10 50 20 5 5000 1000", "start 1: error 1", four, "start 1")
	// The numbers stay for those starts that follow, those that were wrong, too.
	wantSaid(t, "the same ones again", alone, "start 1", "start 1", "start 40: error 1", "start 2", "params 0 0 0 0 0 0 0 0 0 0 0 0", "start 1: error 1", "start 2: error 1")
	wantSaid(t, "one that goes on by its numbers until the next start", alone, "start 1", "params 0 0 0 7 0 0 0 0 0 0 0 0", "beat", "time: 1000", "start 1: error 1", "beat", "time: 2000")
	wantSaid(t, "a new world", alone, "start 1", "set 500", "read 0 5000", "beat", "time: 1500", "now 0: 5000", "start 0", "time: 0", "now 0: error 20", "health 0: boot", "health 16: boot", "stamp 16: error 2")
	wantSaid(t, "no new one", alone, "start 1", "set 500", "read 0 5000", "beat", "start 77: error 1", "time: 1500", "now 0: 5000", "stamp 16: 1000 2")
}

// TestParams is P25.1's params: each number stands for what it should, by where it ends.
func TestParams(t *testing.T) {
	for _, x := range []struct {
		place, last, beyond int // where there is room for the one, and not for the other
	}{{0, 4, 3}, {0, 16, 17}, {1, 1, 2}, {1, 0, -1}, {2, 3, 4}, {2, 0, -1}, {3, 200, 199}, {3, 1 << 40, 1<<40 + 1}, {4, 19, 20}, {4, 0, -1}, {5, 500, 501}, {5, 10, 9}, {6, 100, 101}, {6, 0, -1}, {7, 0, -1}, {7, 1 << 40, 1<<40 + 1},
		{8, 2, 1}, {8, 250, 251}, {9, 4, 3}, {9, 1 << 20, 1<<20 + 1}, {10, 1, 0}, {10, 1 << 40, 1<<40 + 1}, {11, 1, 0}, {11, 1 << 40, 1<<40 + 1}} {
		for n, said := range map[int]string{x.last: "ok", x.beyond: "error 1"} {
			line := strings.Fields(four)
			line[x.place+1] = strconv.Itoa(n)
			wantSaid(t, "the ends of "+strconv.Itoa(x.place), strings.Join(line, " "), "start 1: "+said)
		}
	}
}

// led has beats in which a gateway reads go by ahead of the rest of a script.
func led(ahead []string, list ...string) []string {
	return slices.Concat(ahead, count(4, "read 0 5000", "beat"), list)
}

// TestCoreAndLink is P25.1's core and link: they are there from the next start on, and stay for all that follow.
func TestCoreAndLink(t *testing.T) {
	wantSaid(t, "none", led([]string{alone, "start 3"}, "health 0: synced", "health 16: boot", "health 17: boot")...)
	wantSaid(t, "a core", led([]string{"core 1", alone, "start 3"}, "health 16: boot", "health 17: synced", "health 18: boot")...)
	wantSaid(t, "two, and one that isn't there, nor ever was", led([]string{"core 2", alone, "core 0", "core 7", "core -1", "core -16", "start 3"}, "health 16: synced", "health 17: boot", "health 18: synced")...)
	wantSaid(t, "behind the start", led([]string{alone, "start 3", "core 1", "link 1 2"}, "health 17: boot", "health 18: boot")...)
	wantSaid(t, "behind the next start", led([]string{alone, "start 3", "core 1", "link 1 2", "start 3"}, "health 16: boot", "health 17: synced", "health 18: synced")...)
	wantSaid(t, "a link the other way round", led([]string{alone, "link 2 1", "core 1", "start 3"}, "health 16: boot", "health 17: synced", "health 18: synced")...)
	wantSaid(t, "a link the one way is one both ways", led([]string{alone, "link 1 2", "core 2", "start 3"}, "health 16: boot", "health 17: synced", "health 18: synced")...)
	wantSaid(t, "links by the units' numbers are none", led([]string{alone, "link 16 17", "core 0", "core 17", "start 3"}, "health 16: synced", "health 17: boot")...)
	wantSaid(t, "all starts", led([]string{alone, "core 0", "start 1", "link 0 1", "start 2", "core 9", "start 2", "start 40: error 1", "start 3"}, "health 16: synced", "health 17: synced", "health 18: boot")...)
	wantSaid(t, "one that is there in the next start", led([]string{alone, "core 2", "link 2 3", "start 1", "start 4"}, "health 18: synced", "health 19: synced")...)
}

// TestReadAndTable is P25.1's read and table: each is one more of the next step, and the last one counts.
func TestReadAndTable(t *testing.T) {
	started := []string{alone, "core 0", "start 1", "set 86399000"}
	second := "1970-01-01 23:59:60"
	for _, x := range []struct {
		what string
		list []string
	}{
		{"a reading", []string{"read 0 86400000", "beat", "now 0: 86400000", "span 0: 86399950 86400050", "utc 0: 1970-01-02 00:00:00"}},
		{"the last one", []string{"read 0 5", "read 0 86400000", "beat", "now 0: 86400000"}},
		{"another one's", []string{"read 1 86400000", "read 16 86400000", "read -1 5", "beat", "now 0: error 20", "span 0: error 20", "utc 0: error 20", "pulse 0: error 20", "stamp 0: 1000 2"}},
		{"one that is none", []string{"read 0 1152921504606846977", "beat", "health 0: boot"}},
		{"a table", []string{"read 0 86400000", "table 0 86401 1", "beat", "utc 0: " + second}},
		{"the other way round", []string{"table 0 86401 1", "read 0 86400000", "beat", "utc 0: " + second}},
		{"the last one of two", []string{"table 0 86401 -1", "table 0 86401 1", "read 0 86400000", "beat", "utc 0: " + second}},
		{"none behind it", []string{"table 0 86401 1", "table 0", "read 0 86400000", "beat", "utc 0: 1970-01-02 00:00:00"}},
		{"another one's table", []string{"table 0 86401 1", "table 1", "table 16", "read 0 86400000", "beat", "utc 0: " + second}},
		{"one that isn't good", []string{"table 0 86400 1", "read 0 86400000", "beat", "utc 0: 1970-01-02 00:00:00"}},
		{"two entries", []string{"table 0 86401 1 259200 0", "read 0 259199000", "beat", "utc 0: 1970-01-03 23:59:58", "read 0 259200000", "beat", "utc 0: 1970-01-04 00:00:00"}},
		{"the first one of them", []string{"table 0 86401 1 259200 0", "read 0 86400000", "beat", "utc 0: " + second}},
		{"entries the wrong way round", []string{"table 0 259200 0 86401 1", "read 0 86400000", "beat", "utc 0: 1970-01-02 00:00:00"}},
		{"a table that stays", []string{"table 0 86401 1", "read 0 86400000", "beat", "beat", "utc 0: 1970-01-02 00:00:00", "read 0 86400000", "beat", "now 0: 86400000", "utc 0: " + second}},
	} {
		wantSaid(t, x.what, append(slices.Clone(started), x.list...)...)
	}
	wantSaid(t, "a table reaches the node", append(started, "table 0 86401 1", "read 0 86399000", "beat", "beat", "beat", "utc 0: 1970-01-02 00:00:00", "now 16: 86400995", "utc 16: "+second)...)
}

// TestTickAndAge is P25.1's tick and age: what clocks tell.
func TestTickAndAge(t *testing.T) {
	started := []string{alone, "core 0", "start 1", "read 0 5000", "beat", "now 0: 5000", "span 0: 4950 5050"}
	for _, x := range []struct {
		what string
		list []string
	}{
		{"a beat", []string{"beat", "now 0: 6000", "span 0: 5949 6051", "time: 2000"}},
		{"ticks", []string{"tick 0 1001", "beat", "now 0: 6001", "span 0: 5950 6052", "time: 2000"}},
		{"the last ticks", []string{"tick 0 7", "tick 0 1001", "tick 16 5", "tick 1 6", "tick -1 7", "beat", "now 0: 6001"}},
		{"a node's ticks", []string{"beat", "now 16: 5995", "tick 16 990", "beat", "now 16: 6995", "tick 16 950", "beat", "now 16: 7965"}},
		{"a way that comes by the node's clock", []string{"beat", "span 16: 5939 6051", "now 16: 5995"}},
		{"an age", []string{"age 0 16 910", "beat", "span 16: 5949 6061", "now 16: 6005"}},
		{"the last age", []string{"age 0 16 5", "age 0 16 910", "beat", "span 16: 5949 6061"}},
		{"another way's", []string{"age 16 0 910", "age 0 17 910", "age 0 1 5", "age 1 16 5", "age 0 0 5", "beat", "span 16: 5939 6051"}},
		{"one beat's alone", []string{"age 0 16 910", "tick 0 1001", "beat", "beat", "now 0: 7001", "span 16: 6939 7053"}},
	} {
		wantSaid(t, x.what, append(slices.Clone(started), x.list...)...)
	}
}

// TestLoseAndOff is P25.1's lose and off.
func TestLoseAndOff(t *testing.T) {
	started := []string{alone, "core 0", "core 1", "start 2", "read 0 5000"}
	wantSaid(t, "nothing is lost", append(started, "beat", "beat", "health 16: synced", "health 17: synced")...)
	wantSaid(t, "a way", append(started, "lose 0 16", "beat", "beat", "health 16: boot", "health 17: synced", "beat", "health 16: synced")...)
	wantSaid(t, "two", append(started, "lose 0 17", "lose 0 16", "beat", "beat", "health 16: boot", "health 17: boot")...)
	wantSaid(t, "others", append(started, "lose 16 0", "lose 0 1", "lose 17 16", "lose 0 0", "lose 0 -1", "beat", "beat", "health 16: synced", "health 17: synced")...)
	wantSaid(t, "a gateway that is off", append(started, "off 0", "beat", "health 0: boot", "time: 1000", "beat", "health 0: boot", "health 16: boot")...)
	wantSaid(t, "a node that is off", append(started, "beat", "off 16", "beat", "health 16: boot", "health 17: synced", "beat", "health 16: synced")...)
	wantSaid(t, "two that are off", append(started, "off 17", "off 16", "off 99", "beat", "off 16", "off 17", "beat", "health 0: synced", "health 16: boot", "health 17: boot", "stamp 16: 0 1")...)
	wantSaid(t, "nodes aren't named by their i", append(started, "beat", "off 1", "beat", "health 17: synced")...)
}

// TestCutAndJoin is P25.1's cut and join: of nodes by their i, from the next beat on.
func TestCutAndJoin(t *testing.T) {
	started := slices.Concat([]string{alone, "core 0", "link 0 1", "start 3"}, count(4, "read 0 5000", "beat"), []string{"health 16: synced", "health 17: synced", "health 18: boot"})
	wantSaid(t, "a cut", append(started, "cut 0 1", "health 17: synced", "beat", "health 17: synced", "beat", "health 16: synced", "health 17: boot", "now 17: error 20")...)
	wantSaid(t, "the other way round", append(started, "cut 1 0", "beat", "beat", "health 17: boot", "beat", "health 17: boot")...)
	wantSaid(t, "units' numbers", append(started, "cut 16 17", "join 17 18", "beat", "beat", "beat", "health 17: synced", "health 18: boot")...)
	wantSaid(t, "a join", append(started, "join 2 1", "beat", "beat", "health 18: boot", "beat", "health 18: synced")...)
	wantSaid(t, "both", append(started, "join 0 2", "cut 1 0", "beat", "beat", "beat", "health 17: boot", "health 18: synced")...)
	wantSaid(t, "there again", append(started, "cut 0 1", "beat", "beat", "health 17: boot", "join 0 1", "beat", "beat", "health 17: boot", "beat", "health 17: synced")...)
	wantSaid(t, "a join behind a cut", append(started, "join 0 1", "cut 0 1", "beat", "beat", "beat", "health 17: synced")...)
	wantSaid(t, "gone by a start, which knows of links alone", append(started, append([]string{"join 1 2", "beat", "start 3"}, append(count(5, "read 0 5000", "beat"), "health 17: synced", "health 18: boot")...)...)...)
}

// TestStepIsGone is P25.1's beat: behind it nothing is left of what was told for it.
func TestStepIsGone(t *testing.T) {
	ahead := []string{alone, "core 0", "link 0 1", "start 2", "set 70000"}
	for _, s := range []string{"read 0 5000", "table 0 86401 1", "tick 0 7", "age 0 16 5", "lose 0 16", "off 0", "cut 5 6", "join 1 1"} {
		what := slices.Concat(ahead, []string{s, "beat", "begin 0 86399000 86401000 86400000 0 0 1", "begin 16 5 6 7 0 0 1", "begin 17 5 6 7 0 0 1", "beat", "beat"})
		asks := []string{"now 0", "now 16", "now 17", "span 0", "span 16", "utc 0", "utc 16", "health 16", "health 17"}
		got, want := plays(t, append(what, asks...)...), plays(t, append(slices.DeleteFunc(slices.Clone(what), func(x string) bool { return x == s }), asks...)...)
		if !slices.Equal(got[len(got)-len(asks):], want[len(want)-len(asks):]) {
			t.Errorf("two beats behind %q: %q, and without it %q", s, got, want)
		}
	}
	// A start leaves the next step as it is.
	wantSaid(t, "a start between", alone, "start 1", "read 0 5000", "tick 0 7", "start 0", "beat", "now 0: 5000", "time: 1000")
}

// TestBegin is P25.1's begin: each number stands for what it should, the clock is set, and any good but 0 is good.
func TestBegin(t *testing.T) {
	ahead := []string{alone, "start 1"}
	for _, x := range []struct {
		what string
		list []string
	}{
		{"a state", []string{"begin 16 4000 6000 5500 3 2 1", "health 16: synced", "span 16: 4000 6000", "now 16: 5500", "pulse 16: 1", "utc 16: 1970-01-01 00:00:05", "stamp 16: 5500 0", "stamp 16: 5500 1", "stamp 16: 5500 2"}},
		{"a gateway's", []string{"begin 0 4000 6000 5500 3 2 1", "health 0: synced", "span 0: 4000 6000", "now 0: 5500", "health 16: boot"}},
		{"one that isn't good", []string{"begin 16 4000 6000 5500 3 2 0", "health 16: boot", "span 16: error 20", "now 16: error 20", "stamp 16: 5500 0"}},
		{"good by another number", []string{"begin 16 4000 6000 5500 3 2 -7", "health 16: synced", "begin 16 4000 6000 5500 3 2 2", "health 16: synced", "begin 16 4000 6000 5500 3 2 -9223372036854775808", "health 16: synced", "begin 16 4000 6000 5500 3 2 256", "health 16: synced"}},
		{"beats", []string{"begin 16 4000 6000 5500 6 2 1", "health 16: synced", "begin 16 4000 6000 5500 7 2 1", "health 16: holdover", "now 16: 5500", "begin 16 4000 6000 5500 -7 2 1", "health 16: synced"}},
		{"steps", []string{"begin 16 4000 6000 5500 0 4 1", "health 16: synced", "begin 16 4000 6000 5500 0 5 1", "health 16: boot", "begin 16 4000 6000 5500 0 -5 1", "health 16: synced"}},
		{"an empty span", []string{"begin 16 6000 4000 5500 0 0 1", "health 16: boot"}},
		{"numbers far beyond", []string{"begin 16 -9223372036854775808 9223372036854775807 9223372036854775807 0 0 1", "span 16: -2305843009213693952 2305843009213693952", "now 16: 2305843009213693952", "utc 16: error 30"}},
		{"nobody", []string{"begin 1 1 2 3 0 0 1", "begin 15 1 2 3 0 0 1", "begin 17 1 2 3 0 0 1", "begin -1 1 2 3 0 0 1", "begin 48 1 2 3 0 0 1", "health 0: boot", "health 16: boot", "health 1: boot", "now 1: error 2"}},
		{"its stamps begin anew", []string{"begin 0 5 6 7 0 0 1", "beat", "stamp 0: 1005 2", "begin 0 5 6 7 0 0 1", "stamp 0: 7 0"}},
	} {
		wantSaid(t, x.what, append(slices.Clone(ahead), x.list...)...)
	}
	wantSaid(t, "nothing waits for it", alone, "core 0", "start 1", "read 0 5000", "beat", "begin 16 1 2 3 9 9 0", "beat", "health 16: boot", "beat", "health 16: synced")
	wantSaid(t, "it is as it was, but for the ticks", alone, "start 1", "begin 0 4000 6000 5500 3 2 1", "beat", "now 0: 6480", "span 0: 4999 7001", "health 0: synced", "pulse 0: 1")
}

// TestSet is P25.1's set and time.
func TestSet(t *testing.T) {
	wantSaid(t, "the true time", alone, "start 1", "time: 0", "beat", "time: 1000", "set -70000", "time: -70000", "beat", "time: -69000", "set 2305843009213693951", "beat", "time: 2305843009213693952", "beat", "time: 2305843009213693952",
		"set 9223372036854775807", "time: 2305843009213693952", "set -9223372036854775808", "time: -2305843009213693952", "beat", "time: -2305843009213692952", "set 0", "time: 0")
	wantSaid(t, "what nobody knows of", alone, "start 0", "read 0 5000", "beat", "set 999999", "now 0: 5000", "beat", "now 0: 6000", "time: 1000999")
}

// TestUTC is P25.1 of how a label is written: all but the year in two digits at least.
func TestUTC(t *testing.T) {
	for _, x := range []struct {
		day, second int
		want        string
	}{
		{0, 0, "1970-01-01 00:00:00"}, {0, 9, "1970-01-01 00:00:09"}, {0, 10*3600 + 10*60 + 10, "1970-01-01 10:10:10"}, {0, 86399, "1970-01-01 23:59:59"}, {-1, 86399, "1969-12-31 23:59:59"}, {10956, 9*3600 + 9*60 + 9, "1999-12-31 09:09:09"},
		{11016, 0, "2000-02-29 00:00:00"}, {-719162, 0, "1-01-01 00:00:00"}, {-719163, 0, "0-12-31 00:00:00"}, {-719528, 1, "0-01-01 00:00:01"}, {-719529, 1, "-1-12-31 00:00:01"}, {-354285, 0, "1000-01-01 00:00:00"}, {-354286, 0, "999-12-31 00:00:00"},
		{2932896, 86399, "9999-12-31 23:59:59"}, {2932897, 0, "10000-01-01 00:00:00"}, {-4371953, 3600, "-10000-01-01 01:00:00"},
	} {
		at := strconv.Itoa((x.day*86400 + x.second) * 1000)
		wantSaid(t, "a label", alone, "start 0", "begin 0 "+at+" "+at+" "+at+" 0 0 1", "utc 0: "+x.want, "now 0: "+at)
	}
	at := func(n int) string {
		s := strconv.Itoa(n)
		return "begin 0 " + s + " " + s + " " + s + " 0 0 1"
	}
	seconds := strings.TrimSuffix(alone, "1000") + "1"
	wantSaid(t, "counts' ends", seconds, "start 0", at(1<<42), "utc 0: 141338-07-19 02:25:04", at(1<<42+1), "utc 0: error 30", at(-1<<42), "utc 0: -137399-06-15 21:34:56", at(-1<<42-1), "utc 0: error 30", at(math.MaxInt), "utc 0: error 30")
}

// TestAsked is P25.1 of whom is asked: a unit by its number, and nobody else.
func TestAsked(t *testing.T) {
	ahead := []string{four, "start 2", "begin 3 1 3 2 0 0 1", "begin 17 -17003 -16001 -17001 0 1 1"}
	wantSaid(t, "a gateway", append(ahead, "now 3: 2", "span 3: 1 3", "pulse 3: 0", "utc 3: 1970-01-01 00:00:00", "stamp 3: 2 0", "health 3: synced")...)
	wantSaid(t, "a node", append(ahead, "now 17: -17001", "span 17: -17003 -16001", "pulse 17: -4", "utc 17: 1969-12-31 23:59:42", "stamp 17: 0 1", "stamp 17: 0 2", "health 17: synced")...)
	wantSaid(t, "units that know nothing", append(ahead, "now 0: error 20", "span 2: error 20", "pulse 16: error 20", "utc 16: error 20", "stamp 16: 0 1", "stamp 16: 0 2", "stamp 0: 0 1", "health 16: boot")...)
	for _, who := range []string{"4", "15", "18", "47", "48", "-1", "9223372036854775807", "-9223372036854775808", "-16"} {
		e := "error 2"
		wantSaid(t, "nobody", append(ahead, "now "+who+": "+e, "span "+who+": "+e, "pulse "+who+": "+e, "utc "+who+": "+e, "stamp "+who+": "+e, "health "+who+": boot")...)
	}
}
