package crc_test

import (
	"bytes"
	"hash/crc32"
	"testing"

	"clepsydra/crc"
)

// some are n bytes of which neighbours have little in common; the same ones each time.
func some(n int) []byte {
	b := make([]byte, n)
	x := uint32(n) + 1
	for i := range b {
		x = x*1664525 + 1013904223
		b[i] = byte(x >> 24)
	}
	return b
}

// samples are bytes of many lengths: none, few, all the same, each value, and a frame's greatest number of them.
func samples() [][]byte {
	all := [][]byte{nil, {}, []byte("123456789"), bytes.Repeat([]byte{0}, 40), bytes.Repeat([]byte{255}, 40), some(4096), some(5001)}
	for x := range 256 {
		all = append(all, []byte{byte(x)})
	}
	for n := range 70 {
		all = append(all, some(n))
	}
	return all
}

// byHand is the chapter's check, said bit by bit over lists of bits, the lowest one first.
func byHand(b []byte) uint32 {
	var c [32]bool
	for i := range c {
		c[i] = true
	}
	for _, x := range b {
		for i := range 8 {
			c[i] = c[i] != (x>>i&1 == 1)
		}
		for range 8 {
			out := c[0]
			copy(c[:], c[1:])
			c[31] = false
			for i := range c {
				c[i] = c[i] != (out && uint32(0xEDB88320)>>i&1 == 1)
			}
		}
	}
	sum := uint32(0)
	for i, set := range c {
		if !set {
			sum |= 1 << i
		}
	}
	return sum
}

// TestKnown is P5.1's Sum: checks that are known, the chapter's examples among them.
func TestKnown(t *testing.T) {
	for _, c := range []struct {
		b    string
		want uint32
	}{
		{"", 0}, {"123456789", 0xCBF43926}, {"a", 0xE8B7BE43}, {"abc", 0x352441C2}, {"\x00", 0xD202EF8D}, {"\xff", 0xFF000000},
		{"\x00\x00\x00\x00", 0x2144DF1C}, {"\xff\xff\xff\xff", 0xFFFFFFFF}, {"The quick brown fox jumps over the lazy dog", 0x414FA339},
	} {
		if got := crc.Sum([]byte(c.b)); got != c.want {
			t.Errorf("Sum(%q) is %X, not %X", c.b, got, c.want)
		}
		if got := byHand([]byte(c.b)); got != c.want {
			t.Errorf("by hand the check of %q is %X, not %X", c.b, got, c.want)
		}
	}
	if got := crc.Sum(); got != 0 {
		t.Errorf("Sum() is %X", got)
	}
	if got := crc.Sum(nil, []byte{}, nil); got != 0 {
		t.Errorf("Sum of pieces without bytes is %X", got)
	}
}

// TestSum is P5.1's Sum, held against the check bit by bit, and the library's.
func TestSum(t *testing.T) {
	for _, b := range samples() {
		got := crc.Sum(b)
		if want := byHand(b); got != want {
			t.Errorf("Sum of %d bytes %.20x is %X, not %X", len(b), b, got, want)
		}
		if want := crc32.ChecksumIEEE(b); got != want {
			t.Errorf("Sum of %d bytes %.20x is %X, the library's is %X", len(b), b, got, want)
		}
	}
}

// TestPieces is P5.1's Sum and More: bytes in pieces have the check of all of them, wherever they part.
func TestPieces(t *testing.T) {
	b := some(61)
	want := crc32.ChecksumIEEE(b)
	for i := range len(b) + 1 {
		if got := crc.More(crc.Sum(b[:i]), b[i:]); got != want {
			t.Errorf("More behind %d bytes is %X, not %X", i, got, want)
		}
		for j := i; j <= len(b); j++ {
			if got := crc.Sum(b[:i], b[i:j], nil, b[j:]); got != want {
				t.Errorf("Sum of pieces that part at %d and %d is %X, not %X", i, j, got, want)
			}
		}
	}
	var single [][]byte
	for i := range b {
		single = append(single, b[i:i+1])
	}
	if got := crc.Sum(single...); got != want {
		t.Errorf("Sum of single bytes is %X, not %X", got, want)
	}
	if crc.Sum(b[30:], b[:30]) == want {
		t.Error("Sum of pieces the other way round is the same")
	}
}

// TestMore is P5.1's More, of any 32 bits: each is the check of some bytes.
func TestMore(t *testing.T) {
	c := uint32(0)
	for n := range 200 {
		for _, x := range []uint32{c, ^c, 0, 1, 1 << 31, 0xFFFFFFFF} {
			b := some(n)
			if got, want := crc.More(x, b), crc32.Update(x, crc32.IEEETable, b); got != want {
				t.Errorf("More(%X, %d bytes) is %X, not %X", x, n, got, want)
			}
			if crc.More(x, nil) != x || crc.More(x, []byte{}) != x {
				t.Errorf("More(%X) of no bytes isn't %X", x, x)
			}
		}
		c = c*1664525 + 1013904223
	}
}

// TestSeal is P5.1's Seal: the bytes, and their check, the lowest byte first.
func TestSeal(t *testing.T) {
	if got := crc.Seal([]byte("123456789")); string(got) != "123456789\x26\x39\xF4\xCB" {
		t.Errorf("Seal(123456789) is %q", got)
	}
	for _, b := range samples() {
		c := crc32.ChecksumIEEE(b)
		want := append(bytes.Clone(b), byte(c), byte(c>>8), byte(c>>16), byte(c>>24))
		if got := crc.Seal(b); !bytes.Equal(got, want) {
			t.Errorf("Seal of %d bytes is %.30x, not %.30x", len(b), got, want)
		}
	}
}

func wantShut(t *testing.T, b []byte, why string) {
	t.Helper()
	if got, ok := crc.Open(b); ok || len(got) != 0 {
		t.Errorf("Open(%.30x) is %.30x, %v: %s", b, got, ok, why)
	}
}

// TestOpenOther is P5.1's Open: of too few bytes, and of a check that is another one's or stands another way, it is nothing and false.
func TestOpenOther(t *testing.T) {
	for _, b := range [][]byte{nil, {}, {0}, {0, 0}, {0, 0, 0}, {255, 255, 255}} {
		wantShut(t, b, "fewer than four bytes")
	}
	for x := range 32 {
		c := uint32(1) << x
		wantShut(t, []byte{byte(c), byte(c >> 8), byte(c >> 16), byte(c >> 24)}, "no bytes have the check 0")
	}
	if got, ok := crc.Open([]byte{0, 0, 0, 0}); !ok || len(got) != 0 {
		t.Errorf("Open of no bytes and the check 0 is %x, %v", got, ok)
	}
	wantShut(t, []byte("123456789\xCB\xF4\x39\x26"), "the highest byte comes first")
	wantShut(t, []byte("\x26\x39\xF4\xCB123456789"), "the check is ahead")
	wantShut(t, []byte("123456789\xD9\xC6\x0B\x34"), "the check's bits aren't turned")
	for _, b := range samples() {
		if sealed := crc.Seal(b); len(b) > 0 {
			wantShut(t, sealed[:len(sealed)-1], "the last byte is gone")
			wantShut(t, sealed[1:], "the first byte is gone")
			wantShut(t, append(sealed, 7), "there is a byte more")
		}
	}
}

// TestOpenOfSeal is P5.2's first half; what was sealed twice is opened twice.
func TestOpenOfSeal(t *testing.T) {
	for _, b := range samples() {
		if got, ok := crc.Open(crc.Seal(b)); !ok || !bytes.Equal(got, b) {
			t.Errorf("Open of Seal of %d bytes %.20x is %.20x, %v", len(b), b, got, ok)
		}
		once, ok := crc.Open(crc.Seal(crc.Seal(b)))
		if !ok || !bytes.Equal(once, crc.Seal(b)) {
			t.Errorf("%d bytes sealed twice: %.20x, %v", len(b), once, ok)
		}
	}
}

// turned is b with those of the bits from at on turned that are set in mask, the lowest one first.
func turned(b []byte, at int, mask uint32) []byte {
	other := bytes.Clone(b)
	for i := range 32 {
		if mask>>i&1 == 1 {
			other[(at+i)/8] ^= 1 << ((at + i) % 8)
		}
	}
	return other
}

// TestTurned is P5.2's second half: of few bits that stand together all ways to turn them, of 32 many, at each place, the check's own bits among them.
func TestTurned(t *testing.T) {
	for _, b := range [][]byte{nil, {0}, []byte("123456789"), some(23), bytes.Repeat([]byte{0}, 9), bytes.Repeat([]byte{255}, 9)} {
		sealed := crc.Seal(b)
		bits := 8 * len(sealed)
		for at := range bits {
			few := min(9, bits-at)
			for mask := uint32(1); mask < 1<<few; mask++ {
				wantShut(t, turned(sealed, at, mask), "bits were turned")
			}
		}
		x := uint32(99)
		for at := range bits - 31 {
			for _, mask := range []uint32{0xFFFFFFFF, 0x80000001, 0xEDB88320, 0xDB710641, 0x04C11DB7, 0x82608EDB, 0xAAAAAAAA, 0x55555555} {
				wantShut(t, turned(sealed, at, mask), "bits were turned")
			}
			for range 60 {
				x = x*1664525 + 1013904223
				wantShut(t, turned(sealed, at, x|1), "bits were turned")
			}
		}
	}
}

// TestTurnedLong is P5.2's second half, of a long frame.
func TestTurnedLong(t *testing.T) {
	sealed := crc.Seal(some(1000))
	for at := 0; at < 8*len(sealed)-32; at += 37 {
		for _, mask := range []uint32{1, 1 << 31, 0x80000001, 0xFFFFFFFF} {
			wantShut(t, turned(sealed, at, mask), "bits were turned")
		}
	}
}

// roomy is b with spare room behind it, which is filled.
func roomy(b []byte) []byte {
	room := append(bytes.Clone(b), 1, 2, 3, 4, 5, 6, 7, 8, 9)
	return room[:len(b)]
}

// TestArgumentsStay is P5.3's first half: neither bytes, nor the room behind them, nor the list of pieces is written.
func TestArgumentsStay(t *testing.T) {
	for _, b := range [][]byte{{}, []byte("123456789"), crc.Seal([]byte("123456789")), crc.Seal(nil)} {
		given := roomy(b)
		whole := given[:cap(given)]
		want := bytes.Clone(whole)
		pieces := [][]byte{given, nil, given[:len(given)/2], given}[:3]
		crc.More(5, given)
		crc.Sum(pieces...)
		crc.Seal(given)
		crc.Open(given)
		if !bytes.Equal(whole, want) {
			t.Errorf("what was handed in is %x, was %x", whole, want)
		}
		if len(pieces[0]) != len(b) || pieces[1] != nil || len(pieces[2]) != len(b)/2 || len(pieces[:4][3]) != len(b) {
			t.Errorf("the list of pieces is %x", pieces[:4])
		}
	}
}

// fill writes into all of b, and the room behind it.
func fill(b []byte, x byte) {
	b = b[:cap(b)]
	for i := range b {
		b[i] = x
	}
}

// TestNewMemory is P5.3's second half: what is written into an argument, or an answer, is seen in no other one.
func TestNewMemory(t *testing.T) {
	plain := []byte("123456789")
	sealed := crc.Seal(plain)
	again := crc.Seal(plain)
	opened, _ := crc.Open(sealed)
	second, _ := crc.Open(sealed)
	fill(again, 'x')
	fill(second, 'y')
	if string(plain) != "123456789" || string(sealed) != "123456789\x26\x39\xF4\xCB" || string(opened) != "123456789" {
		t.Errorf("answers share memory: %q, %q, %q", plain, sealed, opened)
	}
	fill(plain, 'z')
	if string(sealed) != "123456789\x26\x39\xF4\xCB" {
		t.Errorf("Seal keeps its argument: %q", sealed)
	}
	fill(sealed, 'z')
	if string(opened) != "123456789" {
		t.Errorf("Open answers a piece of its argument: %q", opened)
	}
	fill(opened, 'w')
	if bytes.IndexByte(sealed, 'w') >= 0 {
		t.Errorf("Open's room is its argument's: %q", sealed)
	}
	bare := []byte{0, 0, 0, 0}
	none, _ := crc.Open(bare)
	fill(none, 'w')
	if !bytes.Equal(bare, []byte{0, 0, 0, 0}) {
		t.Errorf("Open answers no bytes with its argument's room: %x", bare)
	}
}
