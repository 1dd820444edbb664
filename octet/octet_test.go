package octet_test

import (
	"math"
	"slices"
	"testing"

	"burgage/octet"
)

// roomy answers a list with the values of l and, behind its length, room filled with mark.
func roomy[T any](l []T, mark T) []T {
	whole := slices.Concat(l, slices.Repeat([]T{mark}, 16))
	return whole[:len(l):len(whole)]
}

// whole answers l with the room behind it.
func whole[T any](l []T) []T { return l[:cap(l)] }

// scribble overwrites l and the room behind it.
func scribble[T any](l []T, mark T) {
	for i := range whole(l) {
		whole(l)[i] = mark
	}
}

// bitsOf answers the n lowest bits of v, the lowest first.
func bitsOf(v, n int) []bool {
	l := make([]bool, n)
	for i := range l {
		l[i] = v>>i&1 == 1
	}
	return l
}

func TestPut(t *testing.T) {
	cases := []struct {
		b    []byte
		n    int
		want []byte
	}{
		{nil, 0, []byte{0, 0}},
		{[]byte{}, 1, []byte{0, 1}},
		{[]byte{9}, 256, []byte{9, 1, 0}},
		{[]byte{9, 8}, 0x1234, []byte{9, 8, 0x12, 0x34}},
		{[]byte{9}, 65535, []byte{9, 255, 255}},
		{[]byte{9}, 65536, []byte{9, 0, 0}},
		{[]byte{9}, 0x7fabcd, []byte{9, 0xab, 0xcd}},
		{[]byte{9}, -1, []byte{9, 255, 255}},
		{[]byte{9}, -2, []byte{9, 255, 254}},
		{[]byte{9}, -65536, []byte{9, 0, 0}},
		{[]byte{9}, -65537, []byte{9, 255, 255}},
		{[]byte{9}, math.MaxInt, []byte{9, 255, 255}},
		{[]byte{9}, math.MinInt, []byte{9, 0, 0}},
	}
	for _, c := range cases {
		if got := octet.Put(c.b, c.n); !slices.Equal(got, c.want) {
			t.Errorf("P1.1: Put(%v, %d) = %v, want %v", c.b, c.n, got, c.want)
		}
	}
}

func TestGet(t *testing.T) {
	cases := []struct {
		b    []byte
		at   int
		want int
		ok   bool
	}{
		{[]byte{1, 2, 3}, 0, 258, true},
		{[]byte{1, 2, 3}, 1, 515, true},
		{[]byte{1, 2, 3}, 2, 0, false},
		{[]byte{1, 2, 3}, 3, 0, false},
		{[]byte{1, 2, 3}, 4, 0, false},
		{[]byte{1, 2, 3}, -1, 0, false},
		{[]byte{1, 2, 3}, -2, 0, false},
		{[]byte{1, 2, 3}, math.MaxInt, 0, false},
		{[]byte{1, 2, 3}, math.MaxInt - 1, 0, false},
		{[]byte{1, 2, 3}, math.MinInt, 0, false},
		{[]byte{255, 255}, 0, 65535, true},
		{[]byte{128, 0}, 0, 32768, true},
		{[]byte{0, 0}, 0, 0, true},
		{[]byte{7}, 0, 0, false},
		{[]byte{7}, -1, 0, false},
		{[]byte{}, 0, 0, false},
		{nil, 0, 0, false},
		{nil, -2, 0, false},
		{nil, math.MinInt, 0, false},
	}
	for _, c := range cases {
		if got, ok := octet.Get(c.b, c.at); got != c.want || ok != c.ok {
			t.Errorf("P1.1: Get(%v, %d) = %d, %v, want %d, %v", c.b, c.at, got, ok, c.want, c.ok)
		}
	}
}

func TestGetOfPut(t *testing.T) {
	for n := range 1 << 16 {
		b := octet.Put([]byte{5}, n)
		if got, ok := octet.Get(b, 1); !ok || got != n {
			t.Fatalf("P1.1: Get of Put(%d) = %d, %v", n, got, ok)
		}
	}
}

func TestPack(t *testing.T) {
	cases := []struct {
		l    []bool
		want []byte
	}{
		{nil, nil},
		{[]bool{}, nil},
		{[]bool{false}, []byte{0}},
		{[]bool{true}, []byte{1}},
		{[]bool{true, false, true}, []byte{5}},
		{bitsOf(1<<7, 8), []byte{128}},
		{bitsOf(255, 8), []byte{255}},
		{bitsOf(1<<8, 9), []byte{0, 1}},
		{bitsOf(0, 9), []byte{0, 0}},
		{bitsOf(0x8001, 16), []byte{1, 128}},
		{bitsOf(0x1ffff, 17), []byte{255, 255, 1}},
	}
	for _, c := range cases {
		if got := octet.Pack(c.l); !slices.Equal(got, c.want) {
			t.Errorf("P1.1: Pack(%v) = %v, want %v", c.l, got, c.want)
		}
	}
}

func TestOpen(t *testing.T) {
	cases := []struct {
		b    []byte
		n    int
		want []bool
		ok   bool
	}{
		{nil, 0, nil, true},
		{[]byte{}, 0, nil, true},
		{[]byte{5}, 3, []bool{true, false, true}, true},
		{[]byte{5}, 8, bitsOf(5, 8), true},
		{[]byte{0}, 1, bitsOf(0, 1), true},
		{[]byte{128}, 8, bitsOf(128, 8), true},
		{[]byte{0, 1}, 9, bitsOf(256, 9), true},
		{[]byte{1, 128}, 16, bitsOf(0x8001, 16), true},
		{[]byte{5}, 2, nil, false},      // a bit behind the last
		{[]byte{128}, 7, nil, false},    // the one right behind
		{[]byte{1, 128}, 9, nil, false}, // the farthest behind
		{[]byte{0}, 0, nil, false},      // a byte too many
		{[]byte{5, 0}, 8, nil, false},
		{[]byte{5}, 9, nil, false}, // a byte too few
		{nil, 1, nil, false},
		{nil, -1, nil, false},
		{nil, -8, nil, false},
		{[]byte{0}, -1, nil, false},
		{[]byte{0}, -7, nil, false},
		{[]byte{1}, math.MaxInt, nil, false},
		{nil, math.MaxInt, nil, false},
		{nil, math.MaxInt - 7, nil, false},
		{[]byte{1}, math.MinInt, nil, false},
		{nil, math.MinInt, nil, false},
	}
	for _, c := range cases {
		if got, ok := octet.Open(c.b, c.n); !slices.Equal(got, c.want) || ok != c.ok {
			t.Errorf("P1.1: Open(%v, %d) = %v, %v, want %v, %v", c.b, c.n, got, ok, c.want, c.ok)
		}
	}
}

func TestOpenOfEachTwoBytes(t *testing.T) {
	for v := range 1 << 16 {
		b := []byte{byte(v), byte(v >> 8)}
		for n := 0; n <= 18; n++ {
			ok := n > 8 && n <= 16 && v < 1<<n
			var want []bool
			if ok {
				want = bitsOf(v, n)
			}
			if l, got := octet.Open(b, n); got != ok || !slices.Equal(l, want) {
				t.Fatalf("P1.1: Open(%v, %d) = %v, %v, want %v, %v", b, n, l, got, want, ok)
			}
		}
	}
}

func TestOpenOfPack(t *testing.T) {
	for n := range 13 {
		for v := range 1 << n {
			l := bitsOf(v, n)
			if got, ok := octet.Open(octet.Pack(l), n); !ok || !slices.Equal(got, l) {
				t.Fatalf("P1.1: Open of Pack(%v) = %v, %v", l, got, ok)
			}
		}
	}
}

func TestWords(t *testing.T) {
	cases := []struct {
		b    []byte
		want []uint16
		ok   bool
	}{
		{nil, nil, true},
		{[]byte{}, nil, true},
		{[]byte{1, 2}, []uint16{258}, true},
		{[]byte{0, 0, 255, 255, 128, 1}, []uint16{0, 65535, 32769}, true},
		{[]byte{1}, nil, false},
		{[]byte{1, 2, 3}, nil, false},
		{[]byte{1, 2, 3, 4, 5}, nil, false},
	}
	for _, c := range cases {
		if got, ok := octet.Words(c.b); !slices.Equal(got, c.want) || ok != c.ok {
			t.Errorf("P1.1: Words(%v) = %v, %v, want %v, %v", c.b, got, ok, c.want, c.ok)
		}
	}
}

func TestBytes(t *testing.T) {
	cases := []struct {
		l    []uint16
		want []byte
	}{
		{nil, nil},
		{[]uint16{}, nil},
		{[]uint16{258}, []byte{1, 2}},
		{[]uint16{0, 65535, 32769}, []byte{0, 0, 255, 255, 128, 1}},
	}
	for _, c := range cases {
		if got := octet.Bytes(c.l); !slices.Equal(got, c.want) {
			t.Errorf("P1.1: Bytes(%v) = %v, want %v", c.l, got, c.want)
		}
	}
}

func TestBytesIsPutOfEach(t *testing.T) {
	var l []uint16
	var want []byte
	for n := 0; n < 1<<16; n += 97 {
		l = append(l, uint16(n))
		want = append(want, octet.Put(nil, n)...)
	}
	b := octet.Bytes(l)
	if !slices.Equal(b, want) {
		t.Error("P1.1: Bytes is not Put of each")
	}
	if back, ok := octet.Words(b); !ok || !slices.Equal(back, l) {
		t.Error("P1.1: Words of Bytes is not what it was")
	}
}

// Each call is given a list with room behind it; neither may change, though the answer is overwritten with all its room.
func TestNothingIsSharedOrChanged(t *testing.T) {
	const mark = 0xaa
	cases := []struct {
		name string
		b    []byte
		call func(b []byte)
	}{
		{"Put", []byte{1, 2}, func(b []byte) { scribble(octet.Put(b, 0x1234), 77) }},
		{"Put of nothing", nil, func(b []byte) { scribble(octet.Put(b, 0x1234), 77) }},
		{"Get", []byte{1, 2}, func(b []byte) { octet.Get(b, 0) }},
		{"Open", []byte{1, 2}, func(b []byte) { l, _ := octet.Open(b, 10); scribble(l, true) }},
		{"Open refused", []byte{1, 2}, func(b []byte) { l, _ := octet.Open(b, 9); scribble(l, true) }},
		{"Words", []byte{1, 2}, func(b []byte) { l, _ := octet.Words(b); scribble(l, 77) }},
		{"Words refused", []byte{1}, func(b []byte) { l, _ := octet.Words(b); scribble(l, 77) }},
	}
	for _, c := range cases {
		given := roomy(c.b, mark)
		before := slices.Clone(whole(given))
		c.call(given)
		if !slices.Equal(whole(given), before) {
			t.Errorf("R2: %s: %v became %v", c.name, before, whole(given))
		}
	}
	bits := roomy([]bool{true, false, true}, true)
	bitsBefore := slices.Clone(whole(bits))
	scribble(octet.Pack(bits), 77)
	if !slices.Equal(whole(bits), bitsBefore) {
		t.Errorf("R2: Pack: %v became %v", bitsBefore, whole(bits))
	}
	vals := roomy([]uint16{1, 2}, mark)
	valsBefore := slices.Clone(whole(vals))
	scribble(octet.Bytes(vals), 77)
	if !slices.Equal(whole(vals), valsBefore) {
		t.Errorf("R2: Bytes: %v became %v", valsBefore, whole(vals))
	}
}

// A second answer must not feel what was done to a first one: an answer is new memory each time.
func TestAnswersAreNew(t *testing.T) {
	for range 2 {
		b := octet.Put([]byte{1}, 2)
		p := octet.Pack([]bool{true})
		l, _ := octet.Open([]byte{1}, 1)
		w, _ := octet.Words([]byte{0, 1})
		y := octet.Bytes([]uint16{1})
		if !slices.Equal(b, []byte{1, 0, 2}) || !slices.Equal(p, []byte{1}) || !slices.Equal(l, []bool{true}) ||
			!slices.Equal(w, []uint16{1}) || !slices.Equal(y, []byte{0, 1}) {
			t.Fatalf("R2: %v %v %v %v %v", b, p, l, w, y)
		}
		scribble(b, 77)
		scribble(p, 77)
		scribble(l, false)
		scribble(w, 77)
		scribble(y, 77)
	}
}

// What stands in the room behind a list has no say in an answer.
func TestRoomIsNotRead(t *testing.T) {
	if n, ok := octet.Get(roomy([]byte{1}, 9), 0); n != 0 || ok {
		t.Errorf("R5: Get = %d, %v", n, ok)
	}
	if b := octet.Put(roomy([]byte{1}, 9), 2); !slices.Equal(b, []byte{1, 0, 2}) {
		t.Errorf("R5: Put = %v", b)
	}
	if b := octet.Pack(roomy([]bool{true}, true)); !slices.Equal(b, []byte{1}) {
		t.Errorf("R5: Pack = %v", b)
	}
	if l, ok := octet.Open(roomy([]byte{1}, 9), 9); len(l) > 0 || ok {
		t.Errorf("R5: Open of too few = %v, %v", l, ok)
	}
	if l, ok := octet.Open(roomy([]byte{1}, 9), 8); !slices.Equal(l, bitsOf(1, 8)) || !ok {
		t.Errorf("R5: Open = %v, %v", l, ok)
	}
	if l, ok := octet.Words(roomy([]byte{1}, 9)); len(l) > 0 || ok {
		t.Errorf("R5: Words = %v, %v", l, ok)
	}
	if b := octet.Bytes(roomy([]uint16{258}, 9)); !slices.Equal(b, []byte{1, 2}) {
		t.Errorf("R5: Bytes = %v", b)
	}
}
