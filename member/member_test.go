package member_test

import (
	"math"
	"math/rand"
	"slices"
	"strconv"
	"strings"
	"testing"

	"clepsydra/api"
	"clepsydra/member"
)

// nobody are numbers that no neighbour has.
func nobody() []int {
	return []int{math.MinInt, -48, -2, -1, 48, 49, 64, 96, 1 << 32, 1<<32 + 5, 1 << 62, math.MaxInt}
}

// patiences are ordinary ones, and those at and beyond the ends.
func patiences() []int {
	return []int{math.MinInt, -api.Most, -2, -1, 0, 1, 2, 3, 5, 1 << 30, 1 << 32, api.Most, math.MaxInt - 1, math.MaxInt}
}

// past is whether a neighbour was heard in each beat since it is one, the last place being the beat that goes on.
type past []bool

// age counts the beats that ended behind one another up to the last one, and in which it was heard.
func (h past) age() int {
	n := 0
	for i := len(h) - 2; i >= 0 && h[i]; i-- {
		n++
	}
	return n
}

// quiet counts the beats that ended since it was heard.
func (h past) quiet() int {
	n := 0
	for i := len(h) - 1; i >= 0 && !h[i]; i-- {
		n++
	}
	return n
}

// model is the chapter, said by what befell.
type model map[int]past

func (m model) hear(who int) api.Errno {
	_, is := m[who]
	switch {
	case who < 0 || who > 47:
		return api.ErrArg
	case !is && len(m) == 16:
		return api.ErrMany
	case !is:
		m[who] = past{true}
	}
	m[who][len(m[who])-1] = true
	return api.OK
}

func (m model) tick(patience int) []int {
	var gone []int
	for who := range 48 {
		h, is := m[who]
		if !is {
			continue
		}
		if q := h.quiet(); q >= 1 && q > patience {
			gone = append(gone, who)
			delete(m, who)
		} else {
			m[who] = append(h, false)
		}
	}
	return gone
}

func (m model) near() []int {
	var list []int
	for who := range 48 {
		if _, is := m[who]; is {
			list = append(list, who)
		}
	}
	return list
}

// pair is a table, the model that goes with it, and what they were asked till now.
type pair struct {
	t     *testing.T
	x     *member.Table
	m     model
	asked []string
}

func newPair(t *testing.T) *pair { return &pair{t: t, x: member.New(), m: model{}} }

func (p *pair) note(call string, n int) { p.asked = append(p.asked, call+" "+strconv.Itoa(n)) }

// check fails if the last call's answer isn't right, or if Near and all Ages aren't behind it.
func (p *pair) check(right bool) {
	p.t.Helper()
	behind := func() string { return strings.Join(p.asked[max(0, len(p.asked)-100):], "; ") }
	if !right {
		p.t.Fatalf("the last answer is wrong: %s", behind())
	}
	if got, want := p.x.Near(), p.m.near(); !slices.Equal(got, want) {
		p.t.Fatalf("Near is %v, not %v, behind %s", got, want, behind())
	}
	for who := -1; who <= 48; who++ {
		h, is := p.m[who]
		if got, ok := p.x.Age(who); got != h.age() || ok != is {
			p.t.Fatalf("Age of %d is %d, %v, not %d, %v, behind %s", who, got, ok, h.age(), is, behind())
		}
	}
}

func (p *pair) hear(list ...int) {
	p.t.Helper()
	for _, who := range list {
		p.note("Hear", who)
		p.check(p.x.Hear(who) == p.m.hear(who))
	}
}

func (p *pair) tick(patience int) {
	p.t.Helper()
	p.note("Tick", patience)
	p.check(slices.Equal(p.x.Tick(patience), p.m.tick(patience)))
}

func (p *pair) drop(who int) {
	p.t.Helper()
	p.note("Drop", who)
	p.x.Drop(who)
	delete(p.m, who)
	p.check(true)
}

// quiet lets all go, the quietest first, and those not a beat too early: so it is seen for how many beats each has been quiet.
func (p *pair) quiet() {
	p.t.Helper()
	for len(p.m) > 0 {
		most := 0
		for _, h := range p.m {
			most = max(most, h.quiet())
		}
		p.tick(most)
		p.tick(most)
	}
	p.tick(math.MinInt)
}

// TestExamples is the chapter's example, without the model.
func TestExamples(t *testing.T) {
	x := member.New()
	if e := x.Hear(3); e != api.OK {
		t.Errorf("Hear(3) is %d", e)
	}
	for beat, want := range []int{1, 0} {
		if gone := x.Tick(1); len(gone) != 0 {
			t.Errorf("behind beat %d there are gone %v", beat, gone)
		}
		if age, ok := x.Age(3); age != want || !ok {
			t.Errorf("behind beat %d the age is %d, %v", beat, age, ok)
		}
	}
	if gone := x.Tick(1); !slices.Equal(gone, []int{3}) {
		t.Errorf("in the end there are gone %v", gone)
	}
	if age, ok := x.Age(3); age != 0 || ok || len(x.Near()) != 0 {
		t.Errorf("in the end the age is %d, %v", age, ok)
	}
}

// TestNew is P14.1's beginning: there are no neighbours, and none is found.
func TestNew(t *testing.T) {
	for _, patience := range patiences() {
		p := newPair(t)
		p.check(true)
		p.tick(patience)
		for _, who := range append(nobody(), 0, 15, 16, 47) {
			p.drop(who)
		}
	}
}

// TestNil is P14.1 of a nil table: ErrNil ahead of all else, and nothing.
func TestNil(t *testing.T) {
	var x *member.Table
	for _, who := range append(nobody(), 0, 5, 15, 16, 47) {
		if e := x.Hear(who); e != api.ErrNil {
			t.Errorf("Hear(%d) is %d", who, e)
		}
		x.Drop(who)
		if age, ok := x.Age(who); age != 0 || ok {
			t.Errorf("Age(%d) is %d, %v", who, age, ok)
		}
	}
	for _, patience := range patiences() {
		if gone := x.Tick(patience); len(gone) != 0 {
			t.Errorf("Tick(%d) is %v", patience, gone)
		}
	}
	if list := x.Near(); len(list) != 0 {
		t.Errorf("Near is %v", list)
	}
}

// TestWho is P14.1's ErrArg: each number from 0 to 47 is a neighbour's, and none beyond them, be there room or not.
func TestWho(t *testing.T) {
	for who := range 48 {
		p := newPair(t)
		p.hear(who)
		p.tick(2)
		p.hear(who)
		p.tick(2)
		p.drop(who)
	}
	for _, who := range nobody() {
		p := newPair(t)
		for n := range 17 {
			if e := p.x.Hear(who); e != api.ErrArg {
				t.Fatalf("Hear(%d) beside %d neighbours is %d", who, n, e)
			}
			if age, ok := p.x.Age(who); age != 0 || ok {
				t.Fatalf("Age(%d) is %d, %v", who, age, ok)
			}
			p.drop(who)
			p.hear(n * 2)
			p.tick(20)
		}
	}
}

// TestMany is P14.1's ErrMany: 16 there may be; a new one is one too many, and all is as it was; those that are there are heard, and behind a Drop or a Tick there is room again.
func TestMany(t *testing.T) {
	for _, first := range []int{0, 5, 16, 32} {
		p := newPair(t)
		other := (first + 16) % 48
		for i := range 15 {
			p.hear(first + i)
		}
		p.tick(1)
		p.hear(first + 15)
		if e := p.x.Hear(other); e != api.ErrMany {
			t.Fatalf("Hear of the 17th is %d", e)
		}
		p.hear(other, first, first+15, first+7, other)
		p.drop(other)
		p.hear(other)
		p.drop(first + 7)
		p.hear(other, first+7)
		p.tick(0)
		p.hear(first + 7)
		p.tick(0)
		p.hear(other+1, first+1, first)
		p.quiet()
	}
}

// TestAge is P14.1's age: one more for each beat in which it was heard, however often, and 0 behind one in which it wasn't, or when it is new again.
func TestAge(t *testing.T) {
	// Of each 12 beats the bits say in which it is heard.
	for bits := range 1 << 12 {
		p := newPair(t)
		p.hear(20)
		for beat := range 12 {
			if bits>>beat&1 == 1 {
				p.hear(20)
			}
			p.tick(3)
		}
	}
	p := newPair(t)
	for range 300 {
		p.hear(4, 4, 9, 4)
		p.tick(0)
	}
	if age, ok := p.x.Age(4); age != 300 || !ok {
		t.Errorf("behind 300 beats the age is %d, %v", age, ok)
	}
	p.drop(4)
	p.hear(4, 9)
	p.tick(0)
	p.quiet()
	p.hear(9)
	p.tick(0)
}

// TestHearKeepsAge is P14.1's Hear: of one that is there the age stays, and a beat that was quiet is made good no more.
func TestHearKeepsAge(t *testing.T) {
	p := newPair(t)
	for range 5 {
		p.hear(7)
		p.tick(9)
	}
	p.hear(7)
	p.hear(7)
	p.tick(9)
	p.tick(9)
	p.tick(9)
	p.hear(7)
	p.tick(9)
	p.hear(7)
	p.quiet()
}

// TestPatience is P14.1's Tick: who has been quiet for more than patience beats, and at least for one, is gone, and nobody else.
func TestPatience(t *testing.T) {
	for _, patience := range patiences() {
		for quiet := range 9 {
			p := newPair(t)
			p.hear(30, 3)
			for range quiet {
				p.tick(100)
				p.hear(3)
			}
			// 30 has been quiet for so many beats, 3 for none.
			p.tick(patience)
			if _, is := p.x.Age(30); is != (quiet == 0 || quiet <= patience) {
				t.Errorf("quiet for %d beats, with a patience of %d it is there: %v", quiet, patience, is)
			}
			if _, is := p.x.Age(3); !is {
				t.Errorf("heard, with a patience of %d it is gone", patience)
			}
			p.tick(patience)
			p.quiet()
		}
	}
}

// TestRising is P14.1's lists: all the neighbours' numbers, rising, in whatever order they were heard, and so those that are gone.
func TestRising(t *testing.T) {
	r := rand.New(rand.NewSource(14))
	for range 300 {
		p := newPair(t)
		p.hear(r.Perm(48)[:r.Intn(18)]...)
		p.tick(0)
		p.hear(r.Perm(48)[:r.Intn(18)]...)
		p.tick(r.Intn(3))
		p.tick(r.Intn(3))
		p.quiet()
	}
}

// TestShortScripts is P14.1 of a few calls, in every order.
func TestShortScripts(t *testing.T) {
	calls := []func(p *pair){
		func(p *pair) { p.hear(0) },
		func(p *pair) { p.hear(47) },
		func(p *pair) { p.hear(48) },
		func(p *pair) { p.drop(0) },
		func(p *pair) { p.drop(47) },
		func(p *pair) { p.tick(-1) },
		func(p *pair) { p.tick(0) },
		func(p *pair) { p.tick(1) },
		func(p *pair) { p.tick(2) },
	}
	const long = 5
	scripts := 1
	for range long {
		scripts *= len(calls)
	}
	for script := range scripts {
		p := newPair(t)
		for range long {
			calls[script%len(calls)](p)
			script /= len(calls)
		}
		p.quiet()
	}
}

// TestLongScripts is P14.1 of long scripts: tables fill, and get empty again.
func TestLongScripts(t *testing.T) {
	r := rand.New(rand.NewSource(141))
	for range 60 {
		p := newPair(t)
		// Few numbers, so that most are there; many, so that there are too many.
		many := []int{2, 14, 16, 20, 48}[r.Intn(5)]
		often := []int{60, 80, 95}[r.Intn(3)]
		number := func() int {
			if r.Intn(20) == 0 {
				return append(nobody(), 47)[r.Intn(len(nobody())+1)]
			}
			return r.Intn(many)
		}
		for range 1000 {
			switch n := r.Intn(100); {
			case n < often:
				p.hear(number())
			case n < often+2:
				p.drop(number())
			case r.Intn(10) == 0:
				p.tick(patiences()[r.Intn(len(patiences()))])
			default:
				p.tick(r.Intn(5))
			}
		}
		p.quiet()
	}
}

// TestHeardInEach is P14.2's first half, without a model: heard in each of n beats, one's age is n at least, whatever was ahead of them.
func TestHeardInEach(t *testing.T) {
	r := rand.New(rand.NewSource(142))
	for range 300 {
		x := member.New()
		for range r.Intn(40) {
			x.Hear(r.Intn(15))
			if r.Intn(3) == 0 {
				x.Tick(r.Intn(4) - 1)
			}
		}
		for n := 1; n <= 40; n++ {
			x.Hear(5)
			x.Hear(r.Intn(15))
			if gone := x.Tick(r.Intn(4) - 1); slices.Contains(gone, 5) {
				t.Fatalf("heard in each of %d beats, it is gone", n)
			}
			if age, ok := x.Age(5); age < n || !ok {
				t.Fatalf("heard in each of %d beats, its age is %d, %v", n, age, ok)
			}
		}
	}
}

// TestNotHeard is P14.2's second half, without a model: who isn't heard for patience + 2 beats is none behind them, and is told to be gone once, be it heard in the beat ahead of them or long ago.
func TestNotHeard(t *testing.T) {
	r := rand.New(rand.NewSource(143))
	for patience := range 60 {
		for range 20 {
			x := member.New()
			for range r.Intn(30) {
				x.Hear(r.Intn(16))
				if r.Intn(3) == 0 {
					x.Tick(patience)
				}
			}
			near, told := x.Near(), []int{}
			for range patience + 2 {
				x.Hear(40)
				told = append(told, x.Tick(patience)...)
			}
			// Beside 16 others there is no room for 40 at first.
			slices.Sort(told)
			if got := x.Near(); !slices.Equal(told, near) || len(got) > 1 || len(got) == 1 && got[0] != 40 {
				t.Fatalf("with a patience of %d there stay %v of %v, and gone are %v", patience, got, near, told)
			}
		}
	}
}

// TestApart: two tables know nothing of one another.
func TestApart(t *testing.T) {
	p, q := newPair(t), newPair(t)
	for i := range 60 {
		p.hear(i%16, 5)
		q.hear(47-i%20, 5)
		p.tick(3)
		q.drop(5)
		q.tick(9)
	}
	p.quiet()
	q.quiet()
}

// TestNewMemory: what the caller writes into an answer, spare room included, is seen neither by the table nor in another answer.
func TestNewMemory(t *testing.T) {
	p := newPair(t)
	p.hear(1, 2, 3, 20, 30)
	p.tick(0)
	p.hear(20, 30)
	near, gone, rest := p.x.Near(), p.x.Tick(0), p.x.Near()
	p.m.tick(0)
	for _, list := range [][]int{near, gone} {
		for i := range list[:cap(list)] {
			list[:cap(list)][i] = -77
		}
	}
	if !slices.Equal(rest, []int{20, 30}) {
		t.Errorf("Near is %v", rest)
	}
	for i := range rest[:cap(rest)] {
		rest[:cap(rest)][i] = 99
	}
	if !slices.Equal(near, []int{-77, -77, -77, -77, -77}) || !slices.Equal(gone, []int{-77, -77, -77}) {
		t.Errorf("the answers are %v, %v", near, gone)
	}
	p.check(true)
	p.hear(2)
	p.quiet()
}
