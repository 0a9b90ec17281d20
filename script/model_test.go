package script_test

import (
	"fmt"
	"math"
	"math/big"
	"math/rand"
	"regexp"
	"slices"
	"strings"
	"testing"

	"clepsydra/api"
	"clepsydra/script"
	"clepsydra/world"
)

// model is a world that is played by calls, and what they gathered for it.
type model struct {
	w     *world.World
	n     [12]int
	cores []int
	links []api.Way
	next  api.Step
}

// failed is what an error says, else what else is to be said.
func failed(e api.Errno, said string) string {
	if e == 0 {
		return said
	}
	return fmt.Sprintf("error %d", e)
}

// does does what a command tells, by the chapter's table, and answers what it says.
func (m *model) does(word string, n ...int) string {
	pair := api.Way{}
	if len(n) > 1 {
		pair = api.Way{From: n[0], To: n[1]}
	}
	switch word {
	case "params":
		m.n = [12]int(n)
	case "core":
		m.cores = append(m.cores, n[0])
	case "link":
		m.links = append(m.links, pair)
	case "start":
		var p api.Params
		for i, x := range []*int{&p.N, &p.F, &p.D, &p.Beat, &p.Rho, &p.Delay, &p.Jitter, &p.Eps, &p.Mu, &p.Hold, &p.Pulse, &p.Second} {
			*x = m.n[i]
		}
		w, e := world.New(p, n[0], m.cores, m.links)
		if e == 0 {
			m.w = w
		}
		return failed(e, "ok")
	case "read":
		m.next.Reads = append(m.next.Reads, api.Read{Gate: n[0], Is: true, Reading: n[1]})
	case "table":
		r := api.Read{Gate: n[0], Given: true}
		for i := 1; i < len(n); i += 2 {
			r.Table = append(r.Table, api.Leap{At: n[i], Off: n[i+1]})
		}
		m.next.Reads = append(m.next.Reads, r)
	case "tick":
		m.next.Ticks = append(m.next.Ticks, api.Tick{Who: n[0], Ticks: n[1]})
	case "age":
		m.next.Ages = append(m.next.Ages, api.Aged{Way: pair, Ticks: n[2]})
	case "lose":
		m.next.Lost = append(m.next.Lost, pair)
	case "off":
		m.next.Off = append(m.next.Off, n[0])
	case "cut":
		m.next.Cut = append(m.next.Cut, pair)
	case "join":
		m.next.Join = append(m.next.Join, pair)
	case "beat":
		e := m.w.Beat(m.next)
		m.next = api.Step{}
		return failed(e, "ok")
	case "set":
		m.w.Set(n[0])
	case "begin":
		m.w.Begin(n[0], api.State{Span: api.Span{Lo: n[1], Hi: n[2]}, Time: n[3], Held: n[4], Hops: n[5], Set: true, Good: n[6] != 0})
	default:
		return m.says(word, n...)
	}
	return "ok"
}

// says is what a question is answered with.
func (m *model) says(word string, n ...int) string {
	if word == "time" {
		return fmt.Sprint(m.w.Time())
	}
	f := m.w.Front(n[0])
	switch word {
	case "now":
		x, e := f.Now()
		return failed(e, fmt.Sprint(x))
	case "span":
		x, e := f.Interval()
		return failed(e, fmt.Sprint(x.Lo, x.Hi))
	case "utc":
		x, e := f.UTC()
		return failed(e, fmt.Sprintf("%d-%02d-%02d %02d:%02d:%02d", x.Year, x.Month, x.Day, x.Hour, x.Minute, x.Second))
	case "pulse":
		x, e := f.Pulse()
		return failed(e, fmt.Sprint(x))
	case "stamp":
		x, e := f.Stamp()
		return failed(e, fmt.Sprint(x.Time, x.Num))
	}
	return []string{"boot", "synced", "holdover"}[f.Health()]
}

// someone draws numbers and commands at random.
type someone struct {
	*rand.Rand
	p     api.Params // those that were drawn last
	nodes int
	wild  bool
}

func some(seed int64) *someone { return &someone{Rand: rand.New(rand.NewSource(seed)), nodes: 3} }

func (r *someone) of(list ...int) int { return list[r.Intn(len(list))] }

// seldom is true now and then.
func (r *someone) seldom() bool { return r.Intn(12) == 0 }

// num is a number at an end of what is named somewhere, or beyond it.
func (r *someone) num() int {
	return r.of(math.MinInt, math.MinInt+1, -1<<62, -api.Most-1, -api.Most, -api.Most+1, -1<<42*1000, -86400001, -1000, -17, -16, -1, 0, 1, 2, 3, 4, 15, 16, 17, 31, 32, 33, 47, 48, 900, 1000, 5000, 86400000, 86401000,
		1<<30, 1<<40, 1<<42, 1<<42*1000, 1<<60, 1<<60+1, api.Most-1000, api.Most-1, api.Most, api.Most+1, 1<<62, math.MaxInt-1, math.MaxInt)
}

// or is a number, or, of a wild one often, of others seldom, any.
func (r *someone) or(n int) int {
	if r.seldom() && r.wild {
		return r.num()
	}
	return n
}

// unit is a unit's number, most often.
func (r *someone) unit() int {
	return r.or(r.of(r.Intn(max(1, min(16, r.p.N))), 16+r.Intn(r.nodes+1)))
}

// node is a node's, counted from 0 on, most often.
func (r *someone) node() int { return r.or(r.Intn(r.nodes + 1)) }

// near is a number around another one.
func (r *someone) near(n, most int) int { return r.or(n + r.of(-most, 0, most, r.Intn(2*most+1)-most)) }

// params draws a fabric's numbers, such as may be, most often.
func (r *someone) params() []int {
	f := r.Intn(2)
	n := []int{3*f + 1 + r.Intn(3), f, r.Intn(4), r.of(8, 1000, 1000, 100000), 0, 0, 0, r.Intn(80), 0, 5 + r.Intn(3), 1 + r.Intn(9000), r.of(1, 60, 1000)}
	beat := n[3]
	n[4], n[5], n[8] = r.Intn(beat/500+1), r.Intn(beat/2+1), beat/4
	n[6] = r.Intn(n[5] + 1)
	for i := range n {
		n[i] = r.or(n[i])
	}
	r.p = api.Params{N: n[0], Beat: n[3], Delay: n[5], Jitter: n[6], Rho: n[4], Eps: n[7]}
	return n
}

// table draws entries, such as a good table has, most often.
func (r *someone) table() []int {
	var n []int
	at, off := 0, 0
	for range r.Intn(4) {
		off += r.of(-1, 1)
		at += 86400 * (2 + r.Intn(3))
		n = append(n, r.or(at+off), r.or(off))
	}
	return n
}

// command draws one, at a true time.
func (r *someone) command(now int) (string, []int) {
	switch r.Intn(24) {
	case 0:
		if r.seldom() {
			return "params", r.params()
		}
		return "set", []int{r.or(r.of(86400000, 86399000, r.Intn(1<<40), -r.Intn(1<<40)))}
	case 1:
		return r.word("core", "core", "link", "start"), nil
	case 2, 3, 4, 5:
		return "read", []int{r.unit(), r.near(now, 50)}
	case 6:
		return "table", append([]int{r.unit()}, r.table()...)
	case 7:
		return "tick", []int{r.unit(), r.near(r.p.Beat, 1)}
	case 8:
		return "age", []int{r.unit(), r.unit(), r.near(r.p.Beat-r.p.Delay, 3)}
	case 9:
		return r.word("lose", "off"), nil
	case 10:
		return r.word("cut", "join"), nil
	case 11:
		if r.Intn(4) == 0 {
			now = r.of(-1<<60, 1<<60, r.num()/2)
		}
		if r.Intn(3) == 0 {
			return "begin", []int{r.unit(), r.near(now-500, 60), r.near(now+500, 60), r.near(now, 900), r.or(r.Intn(8)), r.or(r.Intn(5)), r.or(r.Intn(3))}
		}
		return "time", nil
	case 12, 13, 14, 15:
		return "beat", nil
	}
	return r.ask(), nil
}

// ask is a question to a unit.
func (r *someone) ask() string {
	return r.word("now", "span", "utc", "pulse", "stamp", "health")
}

func (r *someone) word(list ...string) string { return list[r.Intn(len(list))] }

// numbers are those that a command goes with that was drawn without.
func (r *someone) numbers(word string) []int {
	switch word {
	case "core":
		return []int{r.node()}
	case "start":
		r.nodes = r.Intn(6)
		return []int{r.or(r.nodes)}
	case "link", "cut", "join":
		return []int{r.node(), r.node()}
	case "lose":
		return []int{r.unit(), r.unit()}
	case "time", "beat":
		return nil
	}
	return []int{r.unit()}
}

// line is a command as it is written.
func line(word string, n ...int) string {
	return strings.TrimSuffix(word+" "+strings.Trim(fmt.Sprint(n), "[]"), " ")
}

// draw draws a script, and what a model of its own says of it.
func (r *someone) draw(count int) ([]string, []string) {
	m := &model{}
	var lines, said []string
	plays := func(word string, n ...int) {
		lines, said = append(lines, line(word, n...)), append(said, m.does(word, n...))
	}
	for r.Intn(3) == 0 {
		word, n := r.command(0)
		if n == nil {
			n = r.numbers(word)
		}
		plays(word, n...)
	}
	plays("params", r.params()...)
	for range r.Intn(8) {
		word := r.word("core", "link")
		plays(word, r.numbers(word)...)
	}
	r.nodes = 1 + r.Intn(5)
	plays("start", r.or(r.nodes))
	for len(lines) < count {
		word, n := r.command(m.w.Time() + r.p.Beat)
		if n == nil {
			n = r.numbers(word)
		}
		plays(word, n...)
		if word == "begin" {
			plays(r.ask(), n[0])
		}
	}
	return lines, said
}

// TestModel is P25.1 and P25.2 of scripts of all commands, drawn at random: they say what the calls answer that they name.
func TestModel(t *testing.T) {
	r := some(251)
	said := map[string]int{}
	for i := range 700 {
		r.wild = i%2 == 1
		lines, want := r.draw(20 + r.Intn(250))
		if got := plays(t, lines...); !slices.Equal(got, want) {
			for j := range want {
				if got[j] != want[j] {
					t.Fatalf("line %d of\n%s\nsays %q, not %q", j+1, strings.Join(lines, "\n"), got[j], want[j])
				}
			}
		}
		for j := range lines {
			word, _, _ := strings.Cut(lines[j], " ")
			said[word+" error"] += strings.Count(want[j], "error")
			said[word]++
			said[want[j]]++
		}
	}
	for word := range words() {
		if said[word] < 100 {
			t.Errorf("%d times %s was drawn", said[word], word)
		}
	}
	for _, s := range []string{"synced", "holdover", "boot", "error 1", "error 2", "error 20", "error 30", "now error", "span error", "utc error", "pulse error", "stamp error", "start error", "beat error"} {
		if said[s] < 10 {
			t.Errorf("%d times something says %s", said[s], s)
		}
	}
}

// answers is what lines may say, by their words.
func answers() map[string]*regexp.Regexp {
	number := `(0|-?[1-9][0-9]*)`
	out := map[string]*regexp.Regexp{}
	for word := range words() {
		out[word] = regexp.MustCompile(`^ok$`)
	}
	for word, s := range map[string]string{"start": "ok|error 1", "beat": "ok|error 2", "time": number, "now": number + "|error (2|20)", "pulse": number + "|error (2|20)", "span": number + " " + number + "|error (2|20)",
		"stamp": number + ` (0|[1-9][0-9]*)|error 2`, "utc": number + `-\d\d-\d\d \d\d:\d\d:\d\d|error (2|20|30)`, "health": "boot|synced|holdover"} {
		out[word] = regexp.MustCompile("^(" + s + ")$")
	}
	return out
}

// within is whether the numbers that a command says can be.
func within(word, said string) bool {
	var a, b int
	count, _ := fmt.Sscan(said, &a, &b)
	switch {
	case count < 1 || word == "utc":
		return true
	case a < -api.Most || a > api.Most:
		return false
	case word == "span":
		return a <= b && b <= api.Most
	case word == "stamp":
		return b >= 0 && b <= 1<<30
	}
	return true
}

// TestWhateverBefalls is P5 of the whole: in any script whatever each command says what it may, and no number is beyond where it stays.
func TestWhateverBefalls(t *testing.T) {
	r, may := some(252), answers()
	r.wild = true
	for range 400 {
		r.p = api.Params{N: 16}
		lines, _ := r.draw(20)
		for len(lines) < 300 {
			word := r.word("read", "tick", "age", "begin", "set", "table", "lose", "off", "cut", "join", "beat", "beat", "beat", "now", "span", "utc", "pulse", "stamp", "stamp", "health", "time")
			n := make([]int, words()[word])
			for i := range n {
				n[i] = r.num()
			}
			if len(n) > 0 && r.Intn(4) > 0 {
				n[0] = r.unit()
			}
			lines = append(lines, line(word, n...))
		}
		for i, said := range plays(t, lines...) {
			word, _, _ := strings.Cut(lines[i], " ")
			if !may[word].MatchString(said) || !within(word, said) {
				t.Fatalf("line %d of\n%s\nsays %q", i+1, strings.Join(lines, "\n"), said)
			}
		}
	}
}

// grammar is of lines that are commands, but for numbers that are too great.
func grammar() *regexp.Regexp {
	commands := `^(beat|time|(core|start|off|set|now|span|utc|pulse|stamp|health)#|(link|read|tick|lose|cut|join)#{2}|age#{3}|begin#{7}|params#{12}|table#(#{2})*)$`
	return regexp.MustCompile(strings.ReplaceAll(commands, "#", `( (0|-?[1-9][0-9]*))`))
}

// firstWrong is the number of the first line that is no command, by a grammar, or of the 513th that is one; 0: all are.
func firstWrong(g *regexp.Regexp, s string) int {
	count := 0
	for i, line := range strings.Split(s, "\n") {
		if line == "" {
			continue
		}
		count++
		tooGreat := slices.ContainsFunc(strings.Fields(line), func(x string) bool {
			n, is := new(big.Int).SetString(x, 10)
			return is && !n.IsInt64()
		})
		if count == 513 || tooGreat || !g.MatchString(line) {
			return i + 1
		}
	}
	return 0
}

// TestBytes is P25.1 and P25.3 of scripts in which bytes were changed: the first line that is no command any more is told, if one isn't.
func TestBytes(t *testing.T) {
	r, g := some(253), grammar()
	wrong, right := 0, 0
	for range 300 {
		lines, _ := r.draw(40)
		s := []byte(strings.Join(lines, "\n"))
		for range 20 {
			b := slices.Clone(s)
			for range 1 + r.Intn(3) {
				at, c := r.Intn(len(b)), []byte("\n 0123456789-+xb\r\t\x00#")[r.Intn(20)]
				switch r.Intn(3) {
				case 0:
					b[at] = c
				case 1:
					b = slices.Insert(b, at, c)
				default:
					b = slices.Delete(b, at, at+1)
				}
			}
			out, n, e := script.Run(string(b))
			switch want := firstWrong(g, string(b)); {
			case want > 0 && (out != "" || n != want || e != api.ErrLine), want == 0 && (n != 0 || e != api.OK || strings.Count(out, "\n") != len(strings.FieldsFunc(string(b), func(c rune) bool { return c == '\n' }))):
				t.Fatalf("%q: %q, %d, %d, and the first wrong line is %d", b, out, n, e, want)
			case want > 0:
				wrong++
			default:
				right++
			}
		}
	}
	if wrong < 500 || right < 500 {
		t.Errorf("%d were wrong, %d right", wrong, right)
	}
}

// FuzzRun holds any bytes to the grammar.
func FuzzRun(f *testing.F) {
	f.Add("health 0\nnow 0\nbeat")
	f.Add(alone + "\ncore 0\nstart 2\nread 0 5000\nbeat\nbeat\nspan 16\nstamp 0\nutc 16")
	g := grammar()
	f.Fuzz(func(t *testing.T, s string) {
		out, n, e := script.Run(s)
		switch want := firstWrong(g, s); {
		case len(s) > 65536:
			if out != "" || n != 0 || e != api.ErrLong {
				t.Errorf("%d bytes: %q, %d, %d", len(s), out, n, e)
			}
		case want > 0:
			wantLine(t, s, want)
		case n != 0 || e != api.OK:
			t.Errorf("%q: %q, %d, %d", s, out, n, e)
		}
	})
}
