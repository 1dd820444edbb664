package crc_test

import (
	"math/rand"
	"slices"
	"testing"

	"burgage/crc"
)

// roomy answers a list with the bytes of b and, behind its length, room filled with mark.
func roomy(b []byte, mark byte) []byte {
	all := slices.Concat(b, slices.Repeat([]byte{mark}, 16))
	return all[:len(b):len(all)]
}

// whole answers b with the room behind it.
func whole(b []byte) []byte { return b[:cap(b)] }

// scribble overwrites b and the room behind it.
func scribble(b []byte, mark byte) {
	for i := range whole(b) {
		whole(b)[i] = mark
	}
}

// sums are rows with the sums that others have published or that were worked out by hand.
var sums = []struct {
	b    string
	want uint16
}{
	{"", 0xffff},
	{"\x00", 0x40bf},
	{"\xff", 0x00ff},
	{"\x00\x00", 0xb001},
	{"123456789", 0x4b37},
	{"\x11\x03\x00\x6b\x00\x03", 0x8776},
	{"\x01\x04\x02\xff\xff", 0x80b8},
}

// rows answers rows of many lengths and kinds of bytes.
func rows() [][]byte {
	r := rand.New(rand.NewSource(2))
	out := [][]byte{nil, {}}
	for n := range 40 {
		out = append(out, make([]byte, n), slices.Repeat([]byte{255}, n))
		b := make([]byte, n)
		r.Read(b)
		out = append(out, b)
	}
	long := make([]byte, 5000)
	r.Read(long)
	return append(out, long)
}

// byLine works the sum out another way: as the remainder of the whole row, bit by bit in the line's order.
func byLine(b []byte) uint16 {
	sum := uint16(0xffff)
	for at := range 8 * len(b) {
		bit := uint16(b[at/8] >> (at % 8) & 1)
		if (sum^bit)&1 == 1 {
			sum = sum>>1 ^ 0xa001
		} else {
			sum >>= 1
		}
	}
	return sum
}

func TestOf(t *testing.T) {
	for _, c := range sums {
		if got := crc.Of([]byte(c.b)); got != c.want {
			t.Errorf("P2.1: Of(%q) = %#x, want %#x", c.b, got, c.want)
		}
	}
	for _, b := range rows() {
		if got, want := crc.Of(b), byLine(b); got != want {
			t.Errorf("P2.1: Of(%v) = %#x, want %#x", b, got, want)
		}
	}
	for x := range 256 {
		b := []byte{byte(x)}
		if got, want := crc.Of(b), byLine(b); got != want {
			t.Errorf("P2.1: Of(%v) = %#x, want %#x", b, got, want)
		}
	}
}

func TestOfNothing(t *testing.T) {
	if a, b := crc.Of(nil), crc.Of([]byte{}); a != 0xffff || b != a {
		t.Errorf("R4: Of(nil) = %#x, Of of an empty list = %#x", a, b)
	}
}

func TestSeal(t *testing.T) {
	for _, c := range sums {
		want := append([]byte(c.b), byte(c.want), byte(c.want>>8))
		if got := crc.Seal([]byte(c.b)); !slices.Equal(got, want) {
			t.Errorf("P2.1: Seal(%q) = %v, want %v", c.b, got, want)
		}
	}
}

func TestOpenIsSealBack(t *testing.T) {
	for _, b := range rows() {
		got, ok := crc.Open(crc.Seal(b))
		if !ok || !slices.Equal(got, b) {
			t.Errorf("P2.1: Open(Seal(%v)) = %v, %v", b, got, ok)
		}
	}
}

func TestOpenOfOthers(t *testing.T) {
	cases := [][]byte{
		nil, {}, {0}, {1}, {255},
		{0, 0}, {255, 254}, {254, 255}, {0, 255},
		{255, 255, 1}, {0, 255, 255}, {0, 0xbf}, {0, 0x40, 0xbf},
		[]byte("123456789"), []byte("123456789\x4b\x37"), []byte("123456789\x37"), []byte("123456789\x37\x4b\x01"),
		[]byte("\x00123456789\x37\x4b"), []byte("12345678\x37\x4b"),
	}
	for _, b := range cases {
		if got, ok := crc.Open(b); ok || len(got) != 0 {
			t.Errorf("P2.1: Open(%v) = %v, %v, want none, false", b, got, ok)
		}
	}
	// A nought behind a sealed row makes another sealed row: its sum stays nought.
	if got, ok := crc.Open([]byte{255, 255, 0}); !ok || !slices.Equal(got, []byte{255}) {
		t.Errorf("P2.1: Open of the sealed byte 255 = %v, %v", got, ok)
	}
	for x := range 256 {
		if got, ok := crc.Open([]byte{byte(x)}); ok || len(got) != 0 {
			t.Errorf("P2.1: Open of the one byte %d = %v, %v, want none, false", x, got, ok)
		}
	}
}

// TestOpenOfTwo: of all rows of two bytes just one is a sealed nothing.
func TestOpenOfTwo(t *testing.T) {
	for n := range 1 << 16 {
		b := []byte{byte(n), byte(n >> 8)}
		if got, ok := crc.Open(b); ok != (n == 0xffff) || len(got) != 0 {
			t.Fatalf("P2.1: Open(%v) = %v, %v", b, got, ok)
		}
	}
}

// TestOpenOfOneSum: behind a row just one sum of all opens.
func TestOpenOfOneSum(t *testing.T) {
	row := []byte("123456789")
	for n := range 1 << 16 {
		b := append(slices.Clone(row), byte(n), byte(n>>8))
		got, ok := crc.Open(b)
		if ok != (n == 0x4b37) || ok && !slices.Equal(got, row) || !ok && len(got) != 0 {
			t.Fatalf("P2.1: Open(%v) = %v, %v", b, got, ok)
		}
	}
}

func TestSealedSumsToNought(t *testing.T) {
	for _, b := range rows() {
		if got := crc.Of(crc.Seal(b)); got != 0 {
			t.Errorf("P2.2: Of(Seal(%v)) = %#x, want 0", b, got)
		}
	}
}

// turned answers b with the bits of by turned from the line's bit at on; false, if one of them lies behind b.
func turned(b []byte, at, by int) ([]byte, bool) {
	out := slices.Clone(b)
	for i := range 16 {
		if by>>i&1 == 0 {
			continue
		}
		if at+i >= 8*len(b) {
			return nil, false
		}
		out[(at+i)/8] ^= 1 << ((at + i) % 8)
	}
	return out, true
}

// TestTurned: every burst of up to 16 bits, at every place of some rows, the sum's own bits too.
func TestTurned(t *testing.T) {
	for _, row := range []string{"", "\x00", "\x11\x03\x00\x6b\x00\x03"} {
		sealed := crc.Seal([]byte(row))
		for at := range 8 * len(sealed) {
			for by := 1; by < 1<<16; by += 2 {
				b, ok := turned(sealed, at, by)
				if !ok {
					continue
				}
				if got, ok := crc.Open(b); ok || len(got) != 0 {
					t.Fatalf("P2.2: Open(%v) = %v, %v, which is Seal(%q) with %#x turned at %d", b, got, ok, row, by, at)
				}
			}
		}
	}
}

func TestNothingChanged(t *testing.T) {
	for _, row := range [][]byte{nil, {7}, []byte("123456789"), crc.Seal([]byte("123456789"))} {
		b := roomy(row, 0xee)
		before := slices.Clone(whole(b))
		crc.Of(b)
		crc.Seal(b)
		crc.Open(b)
		if !slices.Equal(whole(b), before) {
			t.Errorf("R2: %v became %v", before, whole(b))
		}
	}
}

func TestRoomNotRead(t *testing.T) {
	for _, row := range rows() {
		sealed := crc.Seal(row)
		for _, mark := range []byte{0, 0xff} {
			if crc.Of(roomy(row, mark)) != crc.Of(row) || !slices.Equal(crc.Seal(roomy(row, mark)), sealed) {
				t.Fatalf("R5: the room behind %v is read", row)
			}
			if got, ok := crc.Open(roomy(sealed, mark)); !ok || !slices.Equal(got, row) {
				t.Fatalf("R5: the room behind %v is read", sealed)
			}
		}
		if got, ok := crc.Open(sealed[: len(row) : len(row)+2]); ok && !slices.Equal(crc.Seal(got), row) {
			t.Fatalf("R5: the sum in the room behind %v is read", row)
		}
	}
	if got, ok := crc.Open([]byte{255, 255}[:1]); ok || len(got) != 0 {
		t.Error("R5: the second byte of the sum is read out of the room")
	}
}

func TestAnswersAreNewMemory(t *testing.T) {
	row := []byte("123456789")
	b := roomy(row, 0xee)
	one, two := crc.Seal(b), crc.Seal(b)
	want := slices.Clone(one)
	scribble(two, 1)
	scribble(b, 2)
	if !slices.Equal(one, want) {
		t.Errorf("R2: Seal's answer shares memory: %v", one)
	}

	sealed := roomy(want, 0xee)
	before := slices.Clone(whole(sealed))
	first, _ := crc.Open(sealed)
	second, _ := crc.Open(sealed)
	scribble(second, 1)
	if !slices.Equal(whole(sealed), before) || !slices.Equal(first, row) {
		t.Errorf("R2: Open's answer shares memory: %v, %v", whole(sealed), first)
	}
	scribble(sealed, 2)
	if !slices.Equal(first, row) {
		t.Errorf("R2: Open's answer shares memory with what was handed in: %v", first)
	}
}
