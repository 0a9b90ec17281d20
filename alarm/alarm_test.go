package alarm_test

import (
	"math"
	"math/rand"
	"slices"
	"strconv"
	"strings"
	"testing"

	"clepsydra/alarm"
	"clepsydra/api"
)

// ends are numbers whose differences wrap, and those beside them.
func ends() []int {
	return []int{math.MinInt, math.MinInt + 1, -1 << 62, -api.Most, -1 << 32, -1, 0, 1, 1 << 32, api.Most, 1 << 62, math.MaxInt - 1, math.MaxInt}
}

// model is the chapter, said by a map from numbers to times that is looked through for the least one.
type model map[int]int

func (m model) set(id, at int) api.Errno {
	if _, is := m[id]; !is && len(m) == 64 {
		return api.ErrMany
	}
	m[id] = at
	return api.OK
}

func (m model) drop(id int) api.Errno {
	if _, is := m[id]; !is {
		return api.ErrNone
	}
	delete(m, id)
	return api.OK
}

// first is the number of the one that goes off first; false: there is none.
func (m model) first() (int, bool) {
	best, found := 0, false
	for id, at := range m {
		if !found || at < m[best] || at == m[best] && id < best {
			best, found = id, true
		}
	}
	return best, found
}

func (m model) due(now int) []int {
	var ids []int
	for id, ok := m.first(); ok && m[id] <= now; id, ok = m.first() {
		ids = append(ids, id)
		delete(m, id)
	}
	return ids
}

func (m model) next() (int, bool) {
	id, ok := m.first()
	return m[id], ok
}

// pair is a table, the model that goes with it, and what they were asked till now.
type pair struct {
	t     *testing.T
	x     *alarm.Table
	m     model
	asked []string
}

func newPair(t *testing.T) *pair { return &pair{t: t, x: alarm.New(), m: model{}} }

func (p *pair) note(call string, numbers ...int) {
	for _, n := range numbers {
		call += " " + strconv.Itoa(n)
	}
	p.asked = append(p.asked, call)
}

// check fails if the last call's answer isn't right, or if Next and Len aren't behind it.
func (p *pair) check(right bool) {
	p.t.Helper()
	behind := strings.Join(p.asked[max(0, len(p.asked)-100):], "; ")
	if !right {
		p.t.Fatalf("the last answer is wrong: %s", behind)
	}
	got, ok := p.x.Next()
	if want, is := p.m.next(); got != want || ok != is {
		p.t.Fatalf("Next is %d, %v, not %d, %v, behind %s", got, ok, want, is, behind)
	}
	if p.x.Len() != len(p.m) {
		p.t.Fatalf("Len is %d, not %d, behind %s", p.x.Len(), len(p.m), behind)
	}
}

func (p *pair) set(id, at int) {
	p.t.Helper()
	p.note("Set", id, at)
	p.check(p.x.Set(id, at) == p.m.set(id, at))
}

func (p *pair) drop(id int) {
	p.t.Helper()
	p.note("Drop", id)
	p.check(p.x.Drop(id) == p.m.drop(id))
}

func (p *pair) due(now int) {
	p.t.Helper()
	p.note("Due", now)
	p.check(slices.Equal(p.x.Due(now), p.m.due(now)))
}

// empty lets each timer go off at its own time, not a tick ahead of it.
func (p *pair) empty() {
	p.t.Helper()
	for len(p.m) > 0 {
		at, _ := p.m.next()
		if at > math.MinInt {
			p.due(at - 1)
		}
		p.due(at)
	}
	p.due(math.MaxInt)
}

// TestExamples is the chapter's example, without the model.
func TestExamples(t *testing.T) {
	x := alarm.New()
	if x.Set(1, 5) != api.OK || x.Set(2, 3) != api.OK || x.Set(1, 9) != api.OK {
		t.Error("Set")
	}
	if got := x.Due(5); !slices.Equal(got, []int{2}) {
		t.Errorf("Due(5) is %v", got)
	}
	if at, ok := x.Next(); at != 9 || !ok || x.Len() != 1 {
		t.Errorf("Next is %d, %v", at, ok)
	}
}

// TestNew is P9.1's beginning: there are no timers, and none is found.
func TestNew(t *testing.T) {
	x := alarm.New()
	if at, ok := x.Next(); at != 0 || ok || x.Len() != 0 {
		t.Errorf("Next is %d, %v", at, ok)
	}
	for _, n := range ends() {
		if x.Drop(n) != api.ErrNone || len(x.Due(n)) != 0 {
			t.Errorf("there is %d", n)
		}
	}
}

// TestNil is P9.1 of a nil table: ErrNil, and nothing.
func TestNil(t *testing.T) {
	var x *alarm.Table
	for _, n := range ends() {
		for _, m := range ends() {
			if e := x.Set(n, m); e != api.ErrNil {
				t.Errorf("Set(%d, %d) is %d", n, m, e)
			}
		}
		if e := x.Drop(n); e != api.ErrNil {
			t.Errorf("Drop(%d) is %d", n, e)
		}
		if ids := x.Due(n); len(ids) != 0 {
			t.Errorf("Due(%d) is %v", n, ids)
		}
		if at, ok := x.Next(); at != 0 || ok || x.Len() != 0 {
			t.Errorf("Next is %d, %v", at, ok)
		}
	}
}

// TestMany is P9.1's ErrMany: 64 there may be; a new number is one too many, and all is as it was; one of theirs may have another time, and behind a Drop or a Due there is room again.
func TestMany(t *testing.T) {
	for _, n := range []int{math.MinInt, -5, 64, 1 << 62, math.MaxInt} {
		p := newPair(t)
		for i := range 64 {
			p.set(i, -i)
		}
		if e := p.x.Set(n, 5); e != api.ErrMany {
			t.Fatalf("Set of the 65th is %d", e)
		}
		for _, at := range ends() {
			p.set(n, at)
		}
		for i := range 64 {
			p.set(i, i%7)
		}
		p.drop(n)
		p.drop(33)
		p.set(n, 3)
		p.set(33, 3)
		p.due(0)
		for i := range 64 {
			p.set(100+i, 4)
		}
		p.empty()
	}
}

// TestSetAgain is P9.1's Set of a number that is there: it has the new time alone, be it earlier, later or the same.
func TestSetAgain(t *testing.T) {
	for old := range 6 {
		for at := range 6 {
			p := newPair(t)
			for id := range 5 {
				p.set(id, id)
			}
			p.set(9, old)
			p.set(9, at)
			p.set(9, at)
			p.empty()
			p.drop(9)
		}
	}
}

// TestDrop is P9.1's Drop: that one alone is gone, wherever it stands; none a second time.
func TestDrop(t *testing.T) {
	for many := range 65 {
		p := newPair(t)
		for id := range many {
			p.set(id, id*29%10)
		}
		p.drop(many)
		p.drop(-1)
		p.drop(many / 2)
		p.drop(many / 2)
		p.drop(0)
		p.drop(many - 1)
		p.set(many/2, 5)
		p.empty()
	}
}

// TestDue is P9.1's Due: by rising times, of one time by rising numbers, in whatever order they were set; one that goes off at now does, the next tick's doesn't.
func TestDue(t *testing.T) {
	r := rand.New(rand.NewSource(9))
	for times := 1; times < 70; times++ {
		p := newPair(t)
		for _, i := range r.Perm(64) {
			p.set(i-32, r.Intn(times))
		}
		for now := -1; now < times; now += 1 + r.Intn(9) {
			p.due(now)
			p.due(now)
		}
		p.empty()
	}
}

// TestEnds is P9.1 of all numbers: they are held against one another as they are, at the ends, too.
func TestEnds(t *testing.T) {
	for _, now := range ends() {
		p, q := newPair(t), newPair(t)
		for i, n := range ends() {
			p.set(n, ends()[len(ends())-1-i])
			q.set(n, 5)
			q.due(math.MinInt)
		}
		p.due(now)
		p.empty()
		q.drop(now)
		q.empty()
	}
	for _, id := range ends() {
		for _, at := range ends() {
			p := newPair(t)
			p.set(id, at)
			p.set(at, id)
			p.set(0, 0)
			p.empty()
		}
	}
}

// TestShortScripts is P9.1 of a few calls, in every order.
func TestShortScripts(t *testing.T) {
	calls := []func(p *pair){
		func(p *pair) { p.set(1, 5) },
		func(p *pair) { p.set(1, 3) },
		func(p *pair) { p.set(-2, 3) },
		func(p *pair) { p.set(0, math.MinInt) },
		func(p *pair) { p.set(2, math.MaxInt) },
		func(p *pair) { p.drop(1) },
		func(p *pair) { p.drop(2) },
		func(p *pair) { p.due(3) },
		func(p *pair) { p.due(4) },
		func(p *pair) { p.due(math.MinInt) },
	}
	const long = 5
	scripts := 1
	for range long {
		scripts *= len(calls)
	}
	for script := range scripts {
		p := newPair(t)
		for range long {
			calls[script%len(calls)](p)
			script /= len(calls)
		}
		p.empty()
	}
}

// TestLongScripts is P9.1 of long scripts: tables fill, and get empty again.
func TestLongScripts(t *testing.T) {
	r := rand.New(rand.NewSource(91))
	for range 60 {
		p := newPair(t)
		// Few numbers, so that most are there; many, so that there are too many.
		many := []int{3, 20, 64, 100, 1000}[r.Intn(5)]
		times := []int{2, 10, 1000}[r.Intn(3)]
		number := func(below int) int {
			if r.Intn(20) == 0 {
				return ends()[r.Intn(len(ends()))]
			}
			return r.Intn(below) - below/2
		}
		for range 2000 {
			switch n := r.Intn(100); {
			case n < 70:
				p.set(number(many), number(times))
			case n < 90:
				p.drop(number(many))
			case n < 99:
				p.due(number(times) - times/2)
			default:
				p.due(number(times))
			}
		}
		p.empty()
	}
}

// TestOnceAndInTime is P9.2, without a model: while time goes by, each timer goes off once, behind the Due ahead of its time and not behind the first one that isn't.
func TestOnceAndInTime(t *testing.T) {
	r := rand.New(rand.NewSource(92))
	x := alarm.New()
	var at, off [5000]int
	set, last := 0, -1
	for now := 0; set < len(at) || x.Len() > 0; now += r.Intn(4) {
		for range r.Intn(9) {
			if set < len(at) && x.Len() < 64 {
				// Some are late as they are set: they go off at once.
				at[set] = now + r.Intn(60) - 10
				if e := x.Set(set, at[set]); e != api.OK {
					t.Fatalf("Set(%d, %d) is %d", set, at[set], e)
				}
				off[set] = -1
				set++
			}
		}
		for _, id := range x.Due(now) {
			if id < 0 || id >= set || off[id] != -1 || at[id] > now {
				t.Fatalf("%d goes off at %d", id, now)
			}
			off[id] = now
		}
		for id := range set {
			if off[id] == -1 && at[id] <= now {
				t.Fatalf("%d is passed over at %d", id, now)
			}
		}
		if len(x.Due(now)) != 0 || len(x.Due(last)) != 0 {
			t.Fatalf("some go off twice at %d", now)
		}
		last = now
	}
}

// TestDropped is P9.2 of what was dropped, or has another time: it doesn't go off at the time it had.
func TestDropped(t *testing.T) {
	x := alarm.New()
	var at5, at7 []int
	for id := range 64 {
		x.Set(id, 5)
	}
	for id := range 64 {
		switch id % 3 {
		case 0:
			x.Drop(id)
		case 1:
			x.Set(id, 7)
			at7 = append(at7, id)
		case 2:
			at5 = append(at5, id)
		}
	}
	if ids := x.Due(6); !slices.Equal(ids, at5) {
		t.Errorf("at 5 there go off %v", ids)
	}
	if ids := x.Due(math.MaxInt); !slices.Equal(ids, at7) {
		t.Errorf("at 7 there go off %v", ids)
	}
}

// TestApart: two tables know nothing of one another.
func TestApart(t *testing.T) {
	p, q := newPair(t), newPair(t)
	for id := range 40 {
		p.set(id, id)
		q.set(id+20, -id)
		p.due(3)
		q.drop(5)
	}
	p.empty()
	q.empty()
}

// TestNewMemory: what the caller writes into an answer, spare room included, is seen neither by the table nor in another answer.
func TestNewMemory(t *testing.T) {
	p := newPair(t)
	for id := range 20 {
		p.set(id, id)
	}
	one, two := p.x.Due(4), p.x.Due(9)
	p.m.due(9)
	for i := range one[:cap(one)] {
		one[:cap(one)][i] = -77
	}
	if !slices.Equal(two, []int{5, 6, 7, 8, 9}) {
		t.Errorf("Due(9) is %v", two)
	}
	for i := range two[:cap(two)] {
		two[:cap(two)][i] = -77
	}
	for i := range one {
		one[i] = 7
	}
	p.set(50, 0)
	p.drop(15)
	p.empty()
	if !slices.Equal(one, []int{7, 7, 7, 7, 7}) || !slices.Equal(two, []int{-77, -77, -77, -77, -77}) {
		t.Errorf("the answers are %v, %v", one, two)
	}
}
