package lane_test

import (
	"math"
	"math/rand"
	"strconv"
	"strings"
	"testing"

	"clepsydra/api"
	"clepsydra/lane"
)

// longest are the most bytes that may wait as one item.
var longest = strings.Repeat("x", 4096)

// nobody are numbers that no neighbour has.
func nobody() []int {
	return []int{math.MinInt, -48, -2, -1, 48, 49, 64, 96, 1 << 32, 1<<32 + 5, 1 << 62, math.MaxInt}
}

// model is the chapter, said by lists that are cut and grow.
type model map[int][]lane.Item

func (m model) push(who int, s string) api.Errno {
	switch {
	case who < 0 || who > 47:
		return api.ErrArg
	case len(s) > 4096:
		return api.ErrLong
	}
	m[who] = append(m[who], lane.Item{Text: s})
	if len(m[who]) > 64 {
		m[who] = m[who][1:]
		return api.ErrFull
	}
	return api.OK
}

func (m model) pop(who int) (lane.Item, bool) {
	if len(m[who]) == 0 {
		return lane.Item{}, false
	}
	x := m[who][0]
	m[who] = m[who][1:]
	return x, true
}

func (m model) tick(most int) int {
	gone := 0
	for who, items := range m {
		var stay []lane.Item
		for _, x := range items {
			if x.Age++; x.Age > most {
				gone++
			} else {
				stay = append(stay, x)
			}
		}
		m[who] = stay
	}
	return gone
}

// pair is lanes, the model that goes with them, and what they were asked till now.
type pair struct {
	t     *testing.T
	l     *lane.Lanes
	m     model
	asked []string
}

func newPair(t *testing.T) *pair { return &pair{t: t, l: lane.New(), m: model{}} }

func (p *pair) note(words ...string) { p.asked = append(p.asked, strings.Join(words, " ")) }

func (p *pair) fail(what string) {
	p.t.Helper()
	p.t.Fatalf("%s, behind %s", what, strings.Join(p.asked[max(0, len(p.asked)-100):], "; "))
}

func (p *pair) push(who int, s string) {
	p.t.Helper()
	p.note("Push", strconv.Itoa(who), strconv.Quote(s[:min(len(s), 9)]))
	if got, want := p.l.Push(who, s), p.m.push(who, s); got != want {
		p.fail("Push is " + strconv.Itoa(int(got)) + ", not " + strconv.Itoa(int(want)))
	}
}

func (p *pair) pop(who int) {
	p.t.Helper()
	p.note("Pop", strconv.Itoa(who))
	got, ok := p.l.Pop(who)
	if want, is := p.m.pop(who); got != want || ok != is {
		p.fail("Pop is " + strconv.Quote(got.Text) + " of " + strconv.Itoa(got.Age) + ", not " + strconv.Quote(want.Text) + " of " + strconv.Itoa(want.Age))
	}
}

func (p *pair) tick(most int) {
	p.t.Helper()
	p.note("Tick", strconv.Itoa(most))
	if got, want := p.l.Tick(most), p.m.tick(most); got != want {
		p.fail("Tick is " + strconv.Itoa(got) + ", not " + strconv.Itoa(want))
	}
}

func (p *pair) clear(who int) {
	p.note("Clear", strconv.Itoa(who))
	p.l.Clear(who)
	delete(p.m, who)
}

func (p *pair) counts() {
	p.t.Helper()
	for who := -1; who <= 48; who++ {
		if got, want := p.l.Len(who), len(p.m[who]); got != want {
			p.fail("Len of " + strconv.Itoa(who) + " is " + strconv.Itoa(got) + ", not " + strconv.Itoa(want))
		}
	}
}

// empty takes all out: each item's bytes, age and place are what they must be.
func (p *pair) empty() {
	p.t.Helper()
	p.counts()
	for who := range 48 {
		for range len(p.m[who]) + 1 {
			p.pop(who)
		}
	}
	p.counts()
}

// TestExamples is the chapter's examples, without the model.
func TestExamples(t *testing.T) {
	l := lane.New()
	if l.Push(3, "a") != api.OK || l.Push(3, "b") != api.OK || l.Tick(0) != 2 || l.Len(3) != 0 {
		t.Error("Push, Push, Tick(0)")
	}
	for i := range 65 {
		want := api.OK
		if i == 64 {
			want = api.ErrFull
		}
		if e := l.Push(3, strconv.Itoa(i)); e != want {
			t.Errorf("Push %d is %d", i, e)
		}
	}
	for i := 1; i < 65; i++ {
		if x, ok := l.Pop(3); x != (lane.Item{Text: strconv.Itoa(i)}) || !ok {
			t.Errorf("Pop %d is %v, %v", i, x, ok)
		}
	}
	if x, ok := l.Pop(3); x != (lane.Item{}) || ok {
		t.Errorf("Pop of nothing is %v, %v", x, ok)
	}
}

// TestNew is P8.1's beginning: nothing waits for anybody, and each neighbour there is has a row.
func TestNew(t *testing.T) {
	p := newPair(t)
	p.empty()
	p.tick(0)
	for who := range 48 {
		p.push(who, strconv.Itoa(who))
	}
	p.empty()
}

// TestNil is P8.1 of nil lanes: ErrNil ahead of all else, and nothing.
func TestNil(t *testing.T) {
	var l *lane.Lanes
	for _, who := range append(nobody(), 0, 5, 47) {
		for _, s := range []string{"", "x", longest, longest + "x"} {
			if e := l.Push(who, s); e != api.ErrNil {
				t.Errorf("Push of %d is %d", who, e)
			}
		}
		l.Clear(who)
		if x, ok := l.Pop(who); x != (lane.Item{}) || ok || l.Len(who) != 0 {
			t.Errorf("Pop of %d is %v, %v", who, x, ok)
		}
	}
	for _, most := range []int{math.MinInt, -1, 0, 1, math.MaxInt} {
		if l.Tick(most) != 0 {
			t.Errorf("Tick(%d) isn't 0", most)
		}
	}
}

// TestNobody is P8.1 of nobody: ErrArg ahead of ErrLong, nothing, and all that waits stays as it was.
func TestNobody(t *testing.T) {
	p := newPair(t)
	for who := range 48 {
		p.push(who, "a"+strconv.Itoa(who))
	}
	p.tick(3)
	for _, who := range nobody() {
		for _, s := range []string{"", "x", longest, longest + "x"} {
			if e := p.l.Push(who, s); e != api.ErrArg {
				t.Errorf("Push of %d is %d", who, e)
			}
		}
		p.l.Clear(who)
		if x, ok := p.l.Pop(who); x != (lane.Item{}) || ok || p.l.Len(who) != 0 {
			t.Errorf("Pop of %d is %v, %v", who, x, ok)
		}
	}
	p.empty()
}

// TestLong is P8.1's ErrLong: ahead of ErrFull, and all that waits stays as it was; of MaxFrame bytes an item may be, and of none.
func TestLong(t *testing.T) {
	p := newPair(t)
	for _, s := range []string{longest + "x", "", longest, longest[1:], longest + longest, "\x00", "\xff\xfe", "a"} {
		p.push(7, s)
	}
	p.empty()
	for i := range 64 {
		p.push(7, strconv.Itoa(i))
	}
	p.push(7, longest+"x")
	p.empty()
	for range 70 {
		p.push(8, longest)
	}
	p.empty()
}

// TestFull is P8.1's ErrFull, wherever the first item stands: it alone is gone, and who was pushed waits behind all.
func TestFull(t *testing.T) {
	for first := range 70 {
		for more := range 70 {
			p := newPair(t)
			for i := range first {
				p.push(5, "old"+strconv.Itoa(i))
				p.pop(5)
			}
			for i := range 60 + more {
				p.push(5, strconv.Itoa(i))
			}
			p.empty()
		}
	}
}

// TestAges is P8.1's ages: all are one more, each item's from its own Push on, wherever the first item stands.
func TestAges(t *testing.T) {
	for first := range 66 {
		p := newPair(t)
		for i := range first {
			p.push(47, "old"+strconv.Itoa(i))
			p.pop(47)
		}
		for i := range 80 {
			p.push(47, strconv.Itoa(i))
			p.push(0, strconv.Itoa(-i))
			if i%3 == 0 {
				p.tick(math.MaxInt)
			}
		}
		p.empty()
	}
}

// TestTick is P8.1's Tick: an age that is most stays, one above it is gone, of all neighbours; below 0 nothing stays.
func TestTick(t *testing.T) {
	for _, most := range []int{math.MinInt, -64, -2, -1, 0, 1, 2, 3, 4, 5, 6, 7, 63, 64, 65, math.MaxInt} {
		p := newPair(t)
		for i := range 6 {
			for who := range 48 {
				for j := range who%4 + i%2 {
					p.push(who, strconv.Itoa(100*i+j))
				}
			}
			p.tick(100)
		}
		p.tick(most)
		p.counts()
		p.tick(most)
		p.empty()
	}
}

// TestClear is P8.1's Clear: of one neighbour all is gone, and what is pushed behind it waits as ever.
func TestClear(t *testing.T) {
	for waiting := range 67 {
		p := newPair(t)
		for i := range waiting {
			p.push(16, "a"+strconv.Itoa(i))
			p.push(15, "b"+strconv.Itoa(i))
			p.tick(100)
		}
		p.pop(16)
		p.clear(16)
		p.counts()
		p.pop(16)
		p.clear(16)
		for i := range 66 {
			p.push(16, "c"+strconv.Itoa(i))
		}
		p.tick(100)
		p.empty()
	}
}

// TestShortScripts is P8.1 of a few calls, in every order.
func TestShortScripts(t *testing.T) {
	calls := []func(p *pair){
		func(p *pair) { p.push(0, "x"+strconv.Itoa(len(p.asked))) },
		func(p *pair) { p.push(47, "y"+strconv.Itoa(len(p.asked))) },
		func(p *pair) { p.pop(0) },
		func(p *pair) { p.tick(0) },
		func(p *pair) { p.tick(1) },
		func(p *pair) { p.tick(2) },
		func(p *pair) { p.clear(0) },
	}
	const long = 5
	scripts := 1
	for range long {
		scripts *= len(calls)
	}
	for script := range scripts {
		p := newPair(t)
		for range long {
			calls[script%len(calls)](p)
			script /= len(calls)
		}
		p.empty()
	}
}

// TestLongScripts is P8.1 of long scripts: rows fill, turn round, and get empty again.
func TestLongScripts(t *testing.T) {
	r := rand.New(rand.NewSource(8))
	for range 40 {
		p := newPair(t)
		// Few neighbours, so that rows fill; many, so that each has its turn.
		many := []int{1, 2, 5, 48}[r.Intn(4)]
		ends := append(nobody(), 0, 47)
		for range 3000 {
			who := r.Intn(many)
			if r.Intn(20) == 0 {
				who = ends[r.Intn(len(ends))]
			}
			switch n := r.Intn(200); {
			case n < 120:
				p.push(who, strconv.Itoa(len(p.asked)))
			case n < 170:
				p.pop(who)
			case n < 195:
				p.tick(r.Intn(40) - 1)
			case n < 196:
				p.clear(who)
			case n < 197:
				p.push(who, longest+"x")
			default:
				p.counts()
			}
		}
		p.empty()
	}
}

// TestOnceInOrder is P8.2's first half, without a model: what comes out rises, as what came in did, and nothing is lost where there is room.
func TestOnceInOrder(t *testing.T) {
	l := lane.New()
	r := rand.New(rand.NewSource(82))
	in, out := 0, 0
	for range 20000 {
		if r.Intn(2) == 0 && l.Len(9) < 64 {
			if l.Push(9, strconv.Itoa(in)) != api.OK {
				t.Fatalf("Push %d", in)
			}
			in++
		} else if x, ok := l.Pop(9); ok {
			if x.Text != strconv.Itoa(out) {
				t.Fatalf("Pop is %s, not %d", x.Text, out)
			}
			out++
		} else if in != out {
			t.Fatalf("%d came in, %d out", in, out)
		}
		if r.Intn(9) == 0 && l.Tick(math.MaxInt) != 0 {
			t.Fatal("none is so old")
		}
	}
	if l.Len(9) != in-out {
		t.Errorf("%d wait", l.Len(9))
	}
}

// TestNeighbours is P8.2's second half: whatever one neighbour is told, all others have what they had.
func TestNeighbours(t *testing.T) {
	for one := range 48 {
		p := newPair(t)
		for who := range 48 {
			for i := range 64 {
				p.push(who, strconv.Itoa(who)+"."+strconv.Itoa(i))
			}
		}
		p.tick(5)
		for i := range 100 {
			p.push(one, "new"+strconv.Itoa(i))
		}
		p.pop(one)
		p.counts()
		if one%2 == 0 {
			p.clear(one)
		}
		p.empty()
	}
}

// TestApart is P8.2 of two lanes: neither knows of the other one.
func TestApart(t *testing.T) {
	p, q := newPair(t), newPair(t)
	p.push(5, "p")
	q.push(5, "q")
	p.tick(9)
	q.clear(5)
	q.push(5, "r")
	p.push(5, "s")
	p.empty()
	q.tick(9)
	q.empty()
}

// TestNoneStays is P8.3: behind n + 1 Ticks of n nothing waits of what waited ahead of them; behind n of them what had the Age 0 still does.
func TestNoneStays(t *testing.T) {
	for _, n := range []int{0, 1, 2, 5, 63, 64, 100} {
		for waited := range 4 {
			l := lane.New()
			for who := range 48 {
				for range waited * who {
					l.Push(who, "old")
				}
			}
			for range waited {
				l.Tick(math.MaxInt)
			}
			for who := range 48 {
				l.Push(who, "old")
			}
			for i := range n + 1 {
				if l.Len(1) == 0 || l.Len(47) == 0 {
					t.Fatalf("of %d Ticks of %d all were gone", i, n)
				}
				l.Tick(n)
			}
			for who := range 48 {
				if l.Len(who) != 0 {
					t.Fatalf("behind %d Ticks of %d there wait %d", n+1, n, l.Len(who))
				}
			}
		}
	}
}

// TestNewerStay is P8.3 with Pushes between the Ticks: those alone are left.
func TestNewerStay(t *testing.T) {
	for n := range 20 {
		l := lane.New()
		for range 40 {
			l.Push(20, "old")
		}
		for range n + 1 {
			l.Tick(n)
			l.Push(20, "new")
		}
		if l.Len(20) != n+1 {
			t.Errorf("behind %d Ticks of %d there wait %d", n+1, n, l.Len(20))
		}
		for i := range n + 1 {
			if x, ok := l.Pop(20); x != (lane.Item{Text: "new", Age: n - i}) || !ok {
				t.Errorf("behind %d Ticks of %d there waits %v, %v", n+1, n, x, ok)
			}
		}
	}
}
