package wire_test

import (
	"encoding/binary"
	"hash/crc32"
	"math"
	"math/rand"
	"reflect"
	"slices"
	"strings"
	"testing"

	"clepsydra/api"
	"clepsydra/wire"
)

// sealed is bytes with their check behind them, by the library.
func sealed(body string) string {
	return string(binary.LittleEndian.AppendUint32([]byte(body), crc32.ChecksumIEEE([]byte(body))))
}

// body is what stands ahead of the check, laid by the library, of any message and any number of entries that is told.
func body(m api.Msg, entries int) string {
	bits := byte(0)
	if m.Good {
		bits++
	}
	if m.Ref {
		bits += 2
	}
	b := []byte{byte(m.Kind), byte(m.From), bits, byte(entries)}
	list := []int{m.Span.Lo, m.Span.Hi, m.Held, m.Hops, m.Seen.Lo, m.Seen.Hi, m.Pulse, m.Stamp.Time, m.Stamp.Num}
	for _, x := range m.Table {
		list = append(list, x.At, x.Off)
	}
	for _, x := range list {
		b = binary.BigEndian.AppendUint64(b, uint64(x))
	}
	return string(b)
}

func frame(m api.Msg) string { return sealed(body(m, len(m.Table))) }

// steps are n entries as near to one another as they may be, from a second on, whose offsets rise (or fall) by one.
func steps(n, at, by int) []api.Leap {
	var list []api.Leap
	for i := range n {
		list = append(list, api.Leap{At: at + i*86400, Off: (i + 1) * by})
	}
	return list
}

// messages can be: plain ones, and such as have each number at one of its ends.
func messages() []api.Msg {
	most := api.Msg{
		Kind: api.FromNode, From: 47, Span: api.Span{Lo: api.Most, Hi: api.Most}, Held: api.MaxHeld, Hops: 17, Good: true, Ref: true,
		Seen: api.Span{Lo: api.Most, Hi: api.Most}, Pulse: api.Most, Stamp: api.Stamp{Time: api.Most, Num: 1 << 30}, Table: steps(32, 1<<40-31*86400, 1),
	}
	least := api.Msg{
		Kind: api.FromGate, Span: api.Span{Lo: -api.Most, Hi: -api.Most}, Seen: api.Span{Lo: -api.Most, Hi: -api.Most},
		Pulse: -api.Most, Stamp: api.Stamp{Time: -api.Most}, Table: steps(32, 0, -1),
	}
	plain := api.Msg{
		Kind: api.FromNode, From: 17, Span: api.Span{Lo: -5, Hi: 0x0102030405060708}, Held: 3, Hops: 2, Good: true,
		Seen: api.Span{Lo: 11, Hi: -12}, Pulse: -1, Stamp: api.Stamp{Time: 9, Num: 4}, Table: []api.Leap{{At: 5, Off: -1}, {At: 86405, Off: 0}, {At: 1 << 40, Off: 1}},
	}
	list := []api.Msg{most, least, plain, {Kind: api.FromGate}, {Kind: api.FromNode, From: 1, Ref: true}, {Kind: api.FromGate, From: 47, Good: true}, {Kind: api.FromNode, Table: []api.Leap{}}}
	// Nothing hangs on the sort of unit behind the kind, and spans may have nothing in them.
	list = append(list, api.Msg{Kind: api.FromGate, From: 30, Span: api.Span{Lo: api.Most, Hi: -api.Most}, Seen: api.Span{Lo: 1, Hi: 0}})
	r := rand.New(rand.NewSource(6))
	for range 200 {
		list = append(list, some(r))
	}
	return list
}

// some is a message that can be.
func some(r *rand.Rand) api.Msg {
	time := func() int { return int(r.Int63n(2*api.Most+1)) - api.Most }
	m := api.Msg{
		Kind: 1 + r.Intn(2), From: r.Intn(48), Span: api.Span{Lo: time(), Hi: time()}, Held: r.Intn(api.MaxHeld + 1), Hops: r.Intn(18), Good: r.Intn(2) == 0, Ref: r.Intn(2) == 0,
		Seen: api.Span{Lo: time(), Hi: time()}, Pulse: time(), Stamp: api.Stamp{Time: time(), Num: r.Intn(1<<30 + 1)},
	}
	at, off := r.Intn(1<<34), 0
	for range r.Intn(33) {
		off += 2*r.Intn(2) - 1
		m.Table = append(m.Table, api.Leap{At: at, Off: off})
		at += 86400 + r.Intn(1<<34)
	}
	return m
}

// same holds messages against each other; tables without entries are the same.
func same(a, b api.Msg) bool {
	tables := slices.Equal(a.Table, b.Table)
	a.Table, b.Table = nil, nil
	return tables && reflect.DeepEqual(a, b)
}

// TestTable is P6.1's Table.
func TestTable(t *testing.T) {
	const day = 86400
	for _, c := range []struct {
		list []api.Leap
		want bool
	}{
		{nil, true}, {[]api.Leap{}, true},
		{[]api.Leap{{At: 0, Off: 1}}, true}, {[]api.Leap{{At: 0, Off: -1}}, true}, {[]api.Leap{{At: 1 << 40, Off: 1}}, true},
		{[]api.Leap{{At: -1, Off: 1}}, false}, {[]api.Leap{{At: 1<<40 + 1, Off: 1}}, false}, {[]api.Leap{{At: math.MinInt, Off: 1}}, false}, {[]api.Leap{{At: math.MaxInt, Off: 1}}, false},
		{[]api.Leap{{}}, false}, {[]api.Leap{{At: 5, Off: 2}}, false}, {[]api.Leap{{At: 5, Off: -2}}, false},
		{[]api.Leap{{At: 5, Off: math.MinInt}}, false}, {[]api.Leap{{At: 5, Off: math.MaxInt}}, false},
		{[]api.Leap{{At: 5, Off: 1}, {At: 5 + day, Off: 2}}, true}, {[]api.Leap{{At: 5, Off: 1}, {At: 5 + day, Off: 0}}, true},
		{[]api.Leap{{At: 5, Off: -1}, {At: 5 + day, Off: 0}}, true}, {[]api.Leap{{At: 5, Off: -1}, {At: 5 + day, Off: -2}}, true},
		{[]api.Leap{{At: 5, Off: 1}, {At: 5 + day, Off: 1}}, false}, {[]api.Leap{{At: 5, Off: 1}, {At: 5 + day, Off: 3}}, false},
		{[]api.Leap{{At: 5, Off: 1}, {At: 5 + day, Off: -1}}, false}, {[]api.Leap{{At: 5, Off: 1}, {At: 5 + day, Off: math.MinInt}}, false},
		{[]api.Leap{{At: 5, Off: 1}, {At: 4 + day, Off: 2}}, false}, {[]api.Leap{{At: 5, Off: 1}, {At: 5, Off: 2}}, false},
		{[]api.Leap{{At: 5 + day, Off: 1}, {At: 5, Off: 2}}, false}, {[]api.Leap{{At: 5, Off: 1}, {At: -5 - day, Off: 2}}, false},
		{[]api.Leap{{At: 1 << 40, Off: 1}, {At: 1<<40 + day, Off: 2}}, false}, {[]api.Leap{{At: 1<<40 - day, Off: 1}, {At: 1 << 40, Off: 2}}, true},
		{[]api.Leap{{At: 5, Off: 1}, {At: math.MinInt, Off: 2}}, false}, {[]api.Leap{{At: 5, Off: 1}, {At: math.MaxInt, Off: 2}}, false},
		{[]api.Leap{{At: 0, Off: 1}, {At: day, Off: 2}, {At: 2*day - 1, Off: 1}}, false},
		{[]api.Leap{{At: 0, Off: 1}, {At: day, Off: 0}, {At: 2 * day, Off: 1}, {At: 3 * day, Off: 0}, {At: 4 * day, Off: -1}}, true},
		{steps(32, 0, 1), true}, {steps(32, 7, -1), true}, {steps(33, 0, 1), false}, {steps(33, 0, -1), false}, {steps(2000, 0, 1), false},
		{steps(32, 1<<40-31*day, 1), true}, {steps(32, 1<<40-31*day+1, 1), false}, {steps(32, 0, 2), false},
		{append(steps(32, 0, 1), api.Leap{At: 32 * day, Off: 31}), false}, {make([]api.Leap, 32), false},
	} {
		if got := wire.Table(c.list); got != c.want {
			t.Errorf("Table(%v) is %v", c.list, got)
		}
	}
}

// ends are a number's: where it stands, its least and its greatest value.
type ends struct {
	name     string
	at       func(m *api.Msg) *int
	lo, most int
}

func numbers() []ends {
	return []ends{
		{"Kind", func(m *api.Msg) *int { return &m.Kind }, 1, 2},
		{"From", func(m *api.Msg) *int { return &m.From }, 0, 47},
		{"Span.Lo", func(m *api.Msg) *int { return &m.Span.Lo }, -1 << 61, 1 << 61},
		{"Span.Hi", func(m *api.Msg) *int { return &m.Span.Hi }, -1 << 61, 1 << 61},
		{"Held", func(m *api.Msg) *int { return &m.Held }, 0, 1 << 30},
		{"Hops", func(m *api.Msg) *int { return &m.Hops }, 0, 17},
		{"Seen.Lo", func(m *api.Msg) *int { return &m.Seen.Lo }, -1 << 61, 1 << 61},
		{"Seen.Hi", func(m *api.Msg) *int { return &m.Seen.Hi }, -1 << 61, 1 << 61},
		{"Pulse", func(m *api.Msg) *int { return &m.Pulse }, -1 << 61, 1 << 61},
		{"Stamp.Time", func(m *api.Msg) *int { return &m.Stamp.Time }, -1 << 61, 1 << 61},
		{"Stamp.Num", func(m *api.Msg) *int { return &m.Stamp.Num }, 0, 1 << 30},
	}
}

// wantMay holds Good, Encode and Decode of a message's frame, whoever laid it, against whether it can be.
func wantMay(t *testing.T, m api.Msg, may bool, why string) {
	t.Helper()
	if got := wire.Good(m); got != may {
		t.Errorf("%s: Good(%+v) is %v", why, m, got)
	}
	s, e := wire.Encode(m)
	if may && (e != api.OK || s != frame(m)) {
		t.Errorf("%s: Encode(%+v) is %x, %d, not %x", why, m, s, e, frame(m))
	}
	if !may && (e != api.ErrArg || s != "") {
		t.Errorf("%s: Encode(%+v) is %x, %d", why, m, s, e)
	}
}

// TestGood is P6.1's Good and Encode: each number at both of its ends, one beyond them, and far beyond; what bytes can tell of these is decoded as well.
func TestGood(t *testing.T) {
	for _, m := range messages() {
		wantMay(t, m, true, "plain")
	}
	for _, m := range messages()[:8] {
		for _, n := range numbers() {
			for _, x := range []int{n.lo, n.lo + 1, n.most - 1, n.most, n.lo - 1, n.most + 1, n.lo - 256, n.lo + 256, n.most + 256, n.lo - 1<<62, n.most + 1<<62, math.MinInt, math.MaxInt} {
				other := m
				*n.at(&other) = x
				may := n.lo <= x && x <= n.most
				wantMay(t, other, may, n.name)
				// A frame has a byte each for Kind and From, and tells no others.
				if !may && int(byte(other.Kind)) == other.Kind && int(byte(other.From)) == other.From {
					wantNone(t, frame(other), api.ErrForm, n.name)
				}
			}
		}
	}
}

// TestTableOfMessage is P6.1 of messages whose table is none: they can't be, and bytes that tell such a one are no frame.
func TestTableOfMessage(t *testing.T) {
	for _, m := range messages()[:8] {
		for _, list := range [][]api.Leap{
			{{At: -1, Off: 1}}, {{At: 1<<40 + 1, Off: 1}}, {{At: 5, Off: 0}}, {{At: 5, Off: 2}}, {{At: 5, Off: 1}, {At: 86404, Off: 2}}, {{At: 5, Off: 1}, {At: 86405, Off: 1}},
			{{At: math.MinInt, Off: math.MaxInt}}, steps(33, 0, 1), steps(200, 0, -1), steps(250, 0, 1),
		} {
			m.Table = list
			wantMay(t, m, false, "table")
			wantNone(t, frame(m), api.ErrForm, "table")
		}
	}
}

// TestFrame is P6.1's frame, byte by byte, and the chapter's examples.
func TestFrame(t *testing.T) {
	m := api.Msg{
		Kind: 2, From: 17, Span: api.Span{Lo: -5, Hi: 0x0102030405060708}, Held: 0x123456, Hops: 3, Good: true, Ref: true,
		Seen: api.Span{Lo: api.Most, Hi: -api.Most}, Pulse: -2, Stamp: api.Stamp{Time: 0x1122, Num: 0x3344}, Table: []api.Leap{{At: 0xABCDEF, Off: -1}, {At: 1 << 40, Off: 0}},
	}
	want := "\x02\x11\x03\x02" +
		"\xff\xff\xff\xff\xff\xff\xff\xfb" + "\x01\x02\x03\x04\x05\x06\x07\x08" + "\x00\x00\x00\x00\x00\x12\x34\x56" + "\x00\x00\x00\x00\x00\x00\x00\x03" +
		"\x20\x00\x00\x00\x00\x00\x00\x00" + "\xe0\x00\x00\x00\x00\x00\x00\x00" + "\xff\xff\xff\xff\xff\xff\xff\xfe" + "\x00\x00\x00\x00\x00\x00\x11\x22" + "\x00\x00\x00\x00\x00\x00\x33\x44" +
		"\x00\x00\x00\x00\x00\xab\xcd\xef" + "\xff\xff\xff\xff\xff\xff\xff\xff" + "\x00\x00\x01\x00\x00\x00\x00\x00" + "\x00\x00\x00\x00\x00\x00\x00\x00"
	s, e := wire.Encode(m)
	if e != api.OK || s != sealed(want) {
		t.Fatalf("Encode is %x, %d", s, e)
	}
	if got, e := wire.Decode(s); e != api.OK || !same(got, m) {
		t.Errorf("Decode is %+v, %d", got, e)
	}
	for bits, m := range []api.Msg{{Kind: 1}, {Kind: 1, Good: true}, {Kind: 1, Ref: true}, {Kind: 1, Good: true, Ref: true}} {
		s, e := wire.Encode(m)
		if e != api.OK || len(s) != 80 || s[2] != byte(bits) {
			t.Errorf("Encode(%+v) is %x, %d", m, s, e)
		}
	}
	if s, e := wire.Encode(api.Msg{Kind: 3}); s != "" || e != api.ErrArg {
		t.Errorf("Encode of Kind 3 is %x, %d", s, e)
	}
	if s, e := wire.Encode(api.Msg{}); s != "" || e != api.ErrArg {
		t.Errorf("Encode of the zero value is %x, %d", s, e)
	}
}

// wantNone is Decode of what isn't a frame: the error, and no message beside it.
func wantNone(t *testing.T, s string, want api.Errno, why string) {
	t.Helper()
	if m, e := wire.Decode(s); e != want || !same(m, api.Msg{}) {
		t.Errorf("%s: Decode(%.200x) is %+v, %d, not %d", why, s, m, e, want)
	}
}

// TestErrors is P6.1's Decode, and which error comes first.
func TestErrors(t *testing.T) {
	plain := frame(messages()[2])
	for _, n := range []int{4097, 4098, 5000, 1 << 20} {
		wantNone(t, strings.Repeat("x", n), api.ErrLong, "too long, and without a check")
		wantNone(t, sealed(strings.Repeat("\x01", n-4)), api.ErrLong, "too long, with a check")
		wantNone(t, sealed(plain+strings.Repeat("\x00", n-4-len(plain))), api.ErrLong, "too long, and a frame ahead")
	}
	wantNone(t, strings.Repeat("x", 4096), api.ErrSum, "as long as it may be, without a check")
	wantNone(t, sealed(strings.Repeat("\x01", 4092)), api.ErrForm, "as long as it may be, with a check")
	for n := range len(plain) {
		wantNone(t, plain[:n], api.ErrSum, "a frame's beginning")
		wantNone(t, plain[n+1:], api.ErrSum, "a frame's end")
	}
	wantNone(t, "\x00\x00\x00", api.ErrSum, "fewer bytes than a check has")
	wantNone(t, "\x03"+plain[1:], api.ErrSum, "a Kind that can't be, and a check of others")
	wantNone(t, "\x00\x00\x00\x00", api.ErrForm, "the check of no bytes")
	wantNone(t, plain+"\x00", api.ErrSum, "a byte more behind the check")
	high := body(messages()[2], 3)
	wantNone(t, string(binary.BigEndian.AppendUint32([]byte(high), crc32.ChecksumIEEE([]byte(high)))), api.ErrSum, "a check with its highest byte first")
}

// TestLength is P6.1's ErrForm: bytes ahead of the check of any other number than the entries' that are told.
func TestLength(t *testing.T) {
	for _, m := range messages()[:8] {
		whole := body(m, len(m.Table))
		for n := range len(whole) {
			wantNone(t, sealed(whole[:n]), api.ErrForm, "too few bytes")
		}
		for n := 1; n < 40; n++ {
			wantNone(t, sealed(whole+strings.Repeat("\x00", n)), api.ErrForm, "too many bytes")
		}
		for n := range 256 {
			if n != len(m.Table) {
				wantNone(t, sealed(body(m, n)), api.ErrForm, "another number of entries")
			}
		}
	}
}

// TestFlags is P6.1's ErrForm and P6.2: bits beside Good's and Ref's are nothing's, so no two frames are the same message.
func TestFlags(t *testing.T) {
	for _, m := range messages()[:8] {
		b := []byte(body(m, len(m.Table)))
		for bits := range 256 {
			b[2] = byte(bits)
			if bits > 3 {
				wantNone(t, sealed(string(b)), api.ErrForm, "bits that mean nothing")
				continue
			}
			got, e := wire.Decode(sealed(string(b)))
			m.Good, m.Ref = bits&1 == 1, bits&2 == 2
			if e != api.OK || !same(got, m) {
				t.Errorf("of bits %d Decode is %+v, %d", bits, got, e)
			}
		}
	}
}

// TestThereAndBack is P6.2's first half.
func TestThereAndBack(t *testing.T) {
	for _, m := range messages() {
		s, e := wire.Encode(m)
		if e != api.OK || len(s) != 80+16*len(m.Table) {
			t.Fatalf("Encode(%+v) is %x, %d", m, s, e)
		}
		if got, e := wire.Decode(s); e != api.OK || !same(got, m) {
			t.Errorf("Decode of the frame of %+v is %+v, %d", m, got, e)
		}
		if got, e := wire.Decode(frame(m)); e != api.OK || !same(got, m) {
			t.Errorf("Decode of a frame laid by hand of %+v is %+v, %d", m, got, e)
		}
	}
}

// TestBackAndThere is P6.2's second half: whatever byte is put at whatever place, and sealed, is a message that can be with that frame, or ErrForm.
func TestBackAndThere(t *testing.T) {
	taken := 0
	for _, m := range []api.Msg{messages()[2], messages()[3], messages()[7]} {
		whole := body(m, len(m.Table))
		for at := range whole {
			for x := range 256 {
				s := sealed(whole[:at] + string([]byte{byte(x)}) + whole[at+1:])
				got, e := wire.Decode(s)
				if e != api.OK {
					wantNone(t, s, api.ErrForm, "another byte")
					continue
				}
				taken++
				again, e := wire.Encode(got)
				if !wire.Good(got) || e != api.OK || again != s || frame(got) != s {
					t.Errorf("%x decodes as %+v, whose frame is %x, %d", s, got, again, e)
				}
			}
		}
	}
	if taken < 1000 {
		t.Errorf("only %d frames were taken", taken)
	}
}

// turned is s with those of the bits from at on turned that are set in mask, the lowest one first.
func turned(s string, at int, mask uint32) string {
	b := []byte(s)
	for i := range 32 {
		if mask>>i&1 == 1 {
			b[(at+i)/8] ^= 1 << ((at + i) % 8)
		}
	}
	return string(b)
}

// TestTurned is P6.3: of few bits that stand together all ways to turn them, of 32 many, at each place of a frame, the check's own bits among them.
func TestTurned(t *testing.T) {
	r := rand.New(rand.NewSource(63))
	for _, m := range messages()[2:4] {
		s := frame(m)
		if _, e := wire.Decode(s); e != api.OK {
			t.Fatalf("Decode(%x) is %d", s, e)
		}
		bits := 8 * len(s)
		for at := range bits {
			for mask := uint32(1); mask < 1<<min(6, bits-at); mask += 2 {
				wantNone(t, turned(s, at, mask), api.ErrSum, "bits were turned")
			}
			if at > bits-32 {
				continue
			}
			for _, mask := range []uint32{0xFFFFFFFF, 0x80000001, 0xEDB88320, 0xDB710641, r.Uint32() | 1, r.Uint32() | 1, r.Uint32() | 1} {
				wantNone(t, turned(s, at, mask), api.ErrSum, "bits were turned")
			}
		}
	}
}

// TestStays is P6.4's first half: neither a table nor the room behind it is written, nor is it kept.
func TestStays(t *testing.T) {
	for _, m := range messages()[:8] {
		room := append(slices.Clone(m.Table), api.Leap{At: 1, Off: 2}, api.Leap{At: 3, Off: 4})
		want := slices.Clone(room)
		given := m
		given.Table = room[:len(m.Table)]
		wire.Table(given.Table)
		wire.Good(given)
		s, _ := wire.Encode(given)
		if !slices.Equal(room, want) {
			t.Errorf("the table is %v, was %v", room, want)
		}
		kept := strings.Clone(s)
		for i := range room {
			room[i] = api.Leap{At: 7, Off: 7}
		}
		if s != kept || s != frame(m) {
			t.Errorf("the frame follows what is written into its message: %x", s)
		}
	}
}

// TestNewMemory is P6.4's second half: two answers share no table, spare room included.
func TestNewMemory(t *testing.T) {
	for _, m := range messages() {
		s := frame(m)
		kept := strings.Clone(s)
		a, _ := wire.Decode(s)
		b, _ := wire.Decode(s)
		room := a.Table[:cap(a.Table)]
		for i := range room {
			room[i] = api.Leap{At: -9, Off: -9}
		}
		c, e := wire.Decode(s)
		if s != kept || e != api.OK || !same(b, m) || !same(c, m) {
			t.Errorf("what is written into an answer is seen: %x, %+v, %+v", s, b, c)
		}
	}
}

// TestAnyBytes is P6.1: of whatever bytes there is an answer, and it is the one that the check and the form ask for.
func TestAnyBytes(t *testing.T) {
	r := rand.New(rand.NewSource(61))
	for range 3000 {
		b := make([]byte, r.Intn(700))
		r.Read(b)
		wantNone(t, string(b), api.ErrSum, "any bytes")
		wantNone(t, sealed(string(b)), api.ErrForm, "any bytes, sealed")
	}
}
