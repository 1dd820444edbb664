package rtu_test

import (
	"math"
	"math/big"
	"math/rand"
	"slices"
	"testing"

	"burgage/api"
	"burgage/crc"
	"burgage/rtu"
)

// roomy answers a list with the values of l and, behind its length, room filled with mark.
func roomy[T any](l []T, mark T) []T {
	all := slices.Concat(l, slices.Repeat([]T{mark}, 16))
	return all[:len(l):len(all)]
}

// whole answers l with the room behind it.
func whole[T any](l []T) []T { return l[:cap(l)] }

// scribble overwrites l and the room behind it.
func scribble[T any](l []T, mark T) {
	for i := range whole(l) {
		whole(l)[i] = mark
	}
}

// row answers n bytes, each another one than its neighbours.
func row(n int) []byte {
	b := make([]byte, n)
	for i := range b {
		b[i] = byte(7 + 3*i)
	}
	return b
}

// sealed answers a row of n bytes in all that begins with addr and has a right sum.
func sealed(addr byte, n int) []byte {
	return crc.Seal(append([]byte{addr}, row(n-3)...))
}

// published are frames that others have written down.
var published = []struct {
	addr       int
	pdu, frame string
}{
	{17, "\x03\x00\x6b\x00\x03", "\x11\x03\x00\x6b\x00\x03\x76\x87"},
	{1, "\x04\x02\xff\xff", "\x01\x04\x02\xff\xff\xb8\x80"},
	{1, "\x03\x00\x00\x00\x0a", "\x01\x03\x00\x00\x00\x0a\xc5\xcd"},
}

// beside are addresses that there are not.
var beside = []int{0, -1, -17, -239, 248, 249, 255, 256, 257, 256 + 17, 65536 + 17, 1<<32 + 17, math.MaxInt, math.MinInt, math.MinInt + 17}

func TestPublished(t *testing.T) {
	for _, c := range published {
		if b, why := rtu.Frame(c.addr, []byte(c.pdu)); string(b) != c.frame || why != api.OK {
			t.Errorf("P5.1: Frame(%d, %x) = %x, %d, want %x", c.addr, c.pdu, b, int(why), c.frame)
		}
		if addr, pdu, why := rtu.Read([]byte(c.frame)); addr != c.addr || string(pdu) != c.pdu || why != api.OK {
			t.Errorf("P5.1: Read(%x) = %d, %x, %d", c.frame, addr, pdu, int(why))
		}
	}
}

// framed asks Frame for want, and, where it is OK, for the frame's bytes and their reading.
func framed(t *testing.T, addr int, pdu []byte, want api.Errno) {
	t.Helper()
	b, why := rtu.Frame(addr, pdu)
	if why != want {
		t.Fatalf("P5.1: Frame(%d, %d bytes) = %d, want %d", addr, len(pdu), int(why), int(want))
	}
	if want != api.OK {
		if len(b) != 0 {
			t.Fatalf("R3: Frame(%d, %d bytes) = %x beside %d", addr, len(pdu), b, int(why))
		}
		return
	}
	n := len(pdu)
	if len(b) != n+3 || int(b[0]) != addr || !slices.Equal(b[1:n+1], pdu) {
		t.Fatalf("P5.1: Frame(%d, %x) = %x", addr, pdu, b)
	}
	if sum := crc.Of(b[:n+1]); b[n+1] != byte(sum) || b[n+2] != byte(sum>>8) {
		t.Fatalf("P5.1: Frame(%d, %x) = %x: the sum", addr, pdu, b)
	}
	if back, again, no := rtu.Read(b); back != addr || !slices.Equal(again, pdu) || no != api.OK {
		t.Fatalf("P5.1: Read(Frame(%d, %x)) = %d, %x, %d", addr, pdu, back, again, int(no))
	}
}

func TestFrame(t *testing.T) {
	for addr := 1; addr <= 247; addr++ {
		framed(t, addr, nil, api.ErrShort)
		framed(t, addr, []byte{}, api.ErrShort)
		for n := 1; n <= api.MaxPdu; n++ {
			if addr == 1 || addr == 17 || addr == 247 || n < 4 || n > 250 {
				framed(t, addr, row(n), api.OK)
			}
		}
		framed(t, addr, row(254), api.ErrLong)
	}
	for _, n := range []int{254, 255, 256, 257, 509, 512, 65536, 65537, 1 << 20} {
		framed(t, 17, make([]byte, n), api.ErrLong)
	}
	// The address is asked first (R8).
	for _, addr := range beside {
		for _, n := range []int{0, 1, 5, 253, 254, 1000} {
			framed(t, addr, row(n), api.ErrArg)
		}
	}
}

// unread asks that Read refuses b by want, and answers nothing beside it.
func unread(t *testing.T, b []byte, want api.Errno) {
	t.Helper()
	addr, pdu, why := rtu.Read(b)
	if why != want {
		t.Fatalf("P5.1: Read(%x) = %d, want %d", b, int(why), int(want))
	}
	if addr != 0 || len(pdu) != 0 {
		t.Fatalf("R3: Read(%x) = %d, %x beside %d", b, addr, pdu, int(why))
	}
}

func TestReadByLength(t *testing.T) {
	unread(t, nil, api.ErrShort)
	unread(t, []byte{}, api.ErrShort)
	for n := range 4 {
		unread(t, make([]byte, n), api.ErrShort)
		unread(t, row(n), api.ErrShort)
	}
	// A right sum does not help what is too short or too long, nor is one asked there (R8).
	unread(t, crc.Seal(nil), api.ErrShort)
	for addr := range 256 {
		unread(t, sealed(byte(addr), 3), api.ErrShort)
		unread(t, sealed(byte(addr), 257), api.ErrLong)
	}
	for _, n := range []int{257, 258, 259, 300, 512, 65536 + 4, 1 << 20} {
		unread(t, sealed(17, n), api.ErrLong)
		unread(t, make([]byte, n), api.ErrLong)
		unread(t, row(n), api.ErrLong)
	}
	for n := 4; n <= 256; n++ {
		addr, pdu, why := rtu.Read(sealed(17, n))
		if addr != 17 || !slices.Equal(pdu, row(n-3)) || why != api.OK {
			t.Fatalf("P5.1: Read of %d bytes = %d, %x, %d", n, addr, pdu, int(why))
		}
		unread(t, make([]byte, n), api.ErrSum)
	}
}

func TestReadByAddress(t *testing.T) {
	for addr := range 256 {
		for _, n := range []int{4, 5, 8, 255, 256} {
			b := sealed(byte(addr), n)
			if addr == 0 || addr > 247 {
				unread(t, b, api.ErrArg)
			} else if got, pdu, why := rtu.Read(b); got != addr || !slices.Equal(pdu, row(n-3)) || why != api.OK {
				t.Fatalf("P5.1: Read(%x) = %d, %x, %d", b, got, pdu, int(why))
			}
			// The sum is asked ahead of the address (R8).
			b[n-1] ^= 1
			unread(t, b, api.ErrSum)
		}
	}
}

func TestReadBySum(t *testing.T) {
	for _, n := range []int{4, 5, 8, 31, 256} {
		good := sealed(17, n)
		for at := range 8 * n {
			b := slices.Clone(good)
			b[at/8] ^= 1 << (at % 8)
			unread(t, b, api.ErrSum)
		}
		swapped := slices.Clone(good)
		swapped[n-2], swapped[n-1] = swapped[n-1], swapped[n-2]
		if swapped[n-2] != swapped[n-1] {
			unread(t, swapped, api.ErrSum)
		}
		if n < 256 {
			unread(t, append(slices.Clone(good), 1), api.ErrSum)
		}
		if n > 4 {
			unread(t, good[:n-1], api.ErrSum)
			unread(t, good[1:], api.ErrSum)
		}
	}
}

func TestFrameAndReadAreNewMemory(t *testing.T) {
	for _, n := range []int{0, 1, 5, 253, 254} {
		for _, addr := range []int{17, 0} {
			for _, mark := range []byte{0, 0xff} {
				in := roomy(row(n), mark)
				keep := slices.Clone(whole(in))
				b, why := rtu.Frame(addr, in)
				want, no := rtu.Frame(addr, row(n))
				if why != no || !slices.Equal(b, want) {
					t.Fatalf("R5: Frame(%d, %d bytes) hangs on the room behind", addr, n)
				}
				scribble(b, 0x5a)
				if !slices.Equal(whole(in), keep) {
					t.Fatalf("R2: Frame(%d, %d bytes) changed what it was given, or shares it", addr, n)
				}
			}
		}
	}
	frames := [][]byte{sealed(17, 4), sealed(1, 8), sealed(247, 256), sealed(0, 8), row(8), row(3), row(257)}
	for _, b := range frames {
		addr, pdu, why := rtu.Read(b)
		for _, mark := range []byte{0, 0xff} {
			in := roomy(b, mark)
			keep := slices.Clone(whole(in))
			got, part, no := rtu.Read(in)
			if got != addr || !slices.Equal(part, pdu) || no != why {
				t.Fatalf("R5: Read(%x) hangs on the room behind", b)
			}
			scribble(part, 0x5a)
			if !slices.Equal(whole(in), keep) {
				t.Fatalf("R2: Read changed %x, or its answer shares it", b)
			}
		}
		// What is cut off stands behind the length, and is not read.
		for n := range min(len(b), 4) {
			unread(t, b[:n], api.ErrShort)
		}
	}
}

// steps are gaps that meet each rule and each edge of it, steps back too.
var steps = []int64{-9, -1, 0, 1, 2, 3, 4, 5}

// expected works the frames out another way: each byte is told how it stands to the latest time ahead, by numbers that never wrap, and frames are then cut by what was told.
func expected(times []int64, b []byte) [][]byte {
	n := min(len(times), len(b))
	begins, spoils := make([]bool, n), make([]bool, n)
	for i := 1; i < n; i++ {
		ahead := slices.Max(times[:i])
		gap := new(big.Int).Sub(big.NewInt(times[i]), big.NewInt(ahead))
		begins[i] = gap.Cmp(big.NewInt(4)) >= 0
		spoils[i] = gap.Cmp(big.NewInt(2)) >= 0 && !begins[i]
	}
	var out [][]byte
	for from := 0; from < n; {
		to := from + 1
		for to < n && !begins[to] {
			to++
		}
		if !slices.Contains(spoils[from:to], true) {
			out = append(out, b[from:to])
		}
		from = to
	}
	return out
}

func same(a, b [][]byte) bool {
	return slices.EqualFunc(a, b, slices.Equal[[]byte])
}

// parted asks Split of times and as many bytes against the promise.
func parted(t *testing.T, times []int64) {
	t.Helper()
	b := row(len(times))
	if got, want := rtu.Split(times, b), expected(times, b); !same(got, want) {
		t.Fatalf("P5.2: Split(%v, %v) = %v, want %v", times, b, got, want)
	}
}

func TestSplit(t *testing.T) {
	const low, high = math.MinInt64, math.MaxInt64
	cases := []struct {
		times []int64
		b     []byte
		want  [][]byte
	}{
		{nil, nil, nil},
		{[]int64{}, []byte{}, nil},
		{nil, []byte{1, 2}, nil},
		{[]int64{1, 2}, nil, nil},
		{[]int64{9}, []byte{1}, [][]byte{{1}}},
		{[]int64{9, 9, 10}, []byte{1, 2, 3}, [][]byte{{1, 2, 3}}},
		{[]int64{0, 1}, []byte{1, 2, 3}, [][]byte{{1, 2}}},
		{[]int64{0, 1, 2}, []byte{1, 2}, [][]byte{{1, 2}}},
		// What is beyond the shorter list neither spoils nor begins.
		{[]int64{0, 1, 3}, []byte{1, 2}, [][]byte{{1, 2}}},
		{[]int64{0, 1, 5}, []byte{1, 2}, [][]byte{{1, 2}}},
		// Inner spoils, Outer parts, and what is just below either does not.
		{[]int64{0, 1}, []byte{1, 2}, [][]byte{{1, 2}}},
		{[]int64{0, 2}, []byte{1, 2}, nil},
		{[]int64{0, 3}, []byte{1, 2}, nil},
		{[]int64{0, 4}, []byte{1, 2}, [][]byte{{1}, {2}}},
		{[]int64{0, 5}, []byte{1, 2}, [][]byte{{1}, {2}}},
		// A spoilt frame is gone whole, to its end and no farther.
		{[]int64{0, 1, 3, 4, 5}, []byte{1, 2, 3, 4, 5}, nil},
		{[]int64{0, 2, 6, 7, 11, 13, 17}, []byte{1, 2, 3, 4, 5, 6, 7}, [][]byte{{3, 4}, {7}}},
		{[]int64{0, 2, 4, 6, 10}, []byte{1, 2, 3, 4, 5}, [][]byte{{5}}},
		// Times that fall back count as the latest one, however often.
		{[]int64{5, 3, 6}, []byte{1, 2, 3}, [][]byte{{1, 2, 3}}},
		{[]int64{5, 3, 7}, []byte{1, 2, 3}, nil},
		{[]int64{9, 0, 4, 8, 13}, []byte{1, 2, 3, 4, 5}, [][]byte{{1, 2, 3, 4}, {5}}},
		{[]int64{9, 0, 1, 2, 12}, []byte{1, 2, 3, 4, 5}, nil},
		// Differences that no int64 tells.
		{[]int64{low, high}, []byte{1, 2}, [][]byte{{1}, {2}}},
		{[]int64{high, low, high}, []byte{1, 2, 3}, [][]byte{{1, 2, 3}}},
		{[]int64{low, low + 2}, []byte{1, 2}, nil},
		{[]int64{high - 4, high}, []byte{1, 2}, [][]byte{{1}, {2}}},
		{[]int64{high - 3, high}, []byte{1, 2}, nil},
		{[]int64{-2, 1 << 62, high}, []byte{1, 2, 3}, [][]byte{{1}, {2}, {3}}},
		{[]int64{-1 << 62, 1 << 62}, []byte{1, 2}, [][]byte{{1}, {2}}},
	}
	for _, c := range cases {
		if got := rtu.Split(c.times, c.b); !same(got, c.want) {
			t.Errorf("P5.2: Split(%v, %v) = %v, want %v", c.times, c.b, got, c.want)
		}
	}
	if rtu.Inner != 2 || rtu.Outer != 4 {
		t.Error("P5.2: Inner, Outer")
	}
}

func TestSplitOfAllSteps(t *testing.T) {
	for n := range 6 {
		for v := range 1 << (3 * n) {
			times := []int64{-3}
			for k := range n {
				times = append(times, times[k]+steps[v>>(3*k)&7])
			}
			parted(t, times)
		}
	}
}

func TestSplitOfFarTimes(t *testing.T) {
	far := []int64{math.MinInt64, math.MinInt64 + 1, math.MinInt64 + 2, math.MinInt64 + 4, -1 << 62, -1, 0, 1, 2, 3, 1 << 62, math.MaxInt64 - 4, math.MaxInt64 - 2, math.MaxInt64 - 1, math.MaxInt64}
	for _, a := range far {
		for _, b := range far {
			for _, c := range far {
				for _, d := range far {
					parted(t, []int64{a, b, c, d})
				}
			}
		}
	}
	r := rand.New(rand.NewSource(5))
	for range 2000 {
		times := make([]int64, r.Intn(40))
		for i := range times {
			times[i] = far[r.Intn(len(far))] ^ int64(r.Intn(4))
		}
		parted(t, times)
	}
}

func TestSplitOfUnlikeLengths(t *testing.T) {
	r := rand.New(rand.NewSource(6))
	for range 2000 {
		times, now := make([]int64, r.Intn(20)), int64(0)
		for i := range times {
			now += steps[r.Intn(len(steps))]
			times[i] = now
		}
		b := row(r.Intn(20))
		if got, want := rtu.Split(times, b), expected(times, b); !same(got, want) {
			t.Fatalf("P5.2: Split(%v, %v) = %v, want %v", times, b, got, want)
		}
	}
}

func TestSplitOfMany(t *testing.T) {
	const n = 1 << 20
	b, times := row(n), make([]int64, n)
	if got := rtu.Split(times, b); len(got) != 1 || !slices.Equal(got[0], b) {
		t.Error("P5.2: Split of many bytes at once")
	}
	for i := range times {
		times[i] = 4 * int64(i)
	}
	got := rtu.Split(times, b)
	if len(got) != n || !slices.Equal(slices.Concat(got...), b) {
		t.Errorf("P5.2: Split of many frames: %d", len(got))
	}
	for i := range times {
		times[i] = 2 * int64(i)
	}
	if got := rtu.Split(times, b); len(got) != 0 {
		t.Errorf("P5.2: Split of one spoilt frame: %d", len(got))
	}
}

func TestSplitIsNewMemory(t *testing.T) {
	// Room that would make other frames of it, if it were read.
	for _, mark := range []int64{0, 12, math.MaxInt64} {
		b, times := roomy(row(9), byte(mark)), roomy([]int64{0, 1, 5, 6, 7, 9, 13, 12, 17}, mark)
		keepBytes, keepTimes := slices.Clone(whole(b)), slices.Clone(whole(times))
		want := expected(slices.Clone(times), slices.Clone(b))
		for i := range want {
			want[i] = slices.Clone(want[i])
		}
		got := rtu.Split(times, b)
		again := rtu.Split(times, b)
		if len(want) != 3 || !same(got, want) {
			t.Fatalf("R5: Split with room behind it = %v, want %v", got, want)
		}
		for i := range got {
			scribble(got[i], 0x5a)
			if !same(got[i+1:], want[i+1:]) {
				t.Fatalf("R2: frames %d and later of Split share memory", i)
			}
		}
		for i := len(again) - 1; i >= 0; i-- {
			if !slices.Equal(again[i], want[i]) {
				t.Fatalf("R2: two answers of Split, or frames of one, share memory")
			}
			scribble(again[i], 0x5a)
		}
		for i, frame := range whole(got)[len(got):] {
			if len(frame) != 0 {
				t.Fatalf("R2: behind the frames of Split stands %v at %d", frame, i)
			}
		}
		if !slices.Equal(whole(b), keepBytes) || !slices.Equal(whole(times), keepTimes) {
			t.Fatal("R2: Split changed what it was given, or its answer shares it")
		}
		last := rtu.Split(times, b)
		scribble(b, 0x77)
		scribble(times, 0x77)
		if !same(last, want) {
			t.Fatal("R2: what Split answered is not new memory")
		}
	}
}

func TestExamples(t *testing.T) {
	if got := rtu.Split(nil, nil); len(got) != 0 {
		t.Errorf("P5.2: Split of nothing: %v", got)
	}
	unread(t, []byte{17, 3, 0}, api.ErrShort)
	framed(t, 0, []byte{3, 0, 0, 0, 1}, api.ErrArg)
}
