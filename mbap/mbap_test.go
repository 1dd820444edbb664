package mbap_test

import (
	"math"
	"math/rand"
	"slices"
	"testing"

	"burgage/mbap"
)

// roomy answers a list with the values of l and, behind its length, room filled with mark.
func roomy[T any](l []T, mark T) []T {
	all := slices.Concat(l, slices.Repeat([]T{mark}, 16))
	return all[:len(l):len(all)]
}

// whole answers l with the room behind it.
func whole[T any](l []T) []T { return l[:cap(l)] }

// scribble overwrites l and the room behind it.
func scribble[T any](l []T, mark T) {
	for i := range whole(l) {
		whole(l)[i] = mark
	}
}

// row answers n bytes, each another one than its neighbours.
func row(n int) []byte {
	b := make([]byte, n)
	for i := range b {
		b[i] = byte(7 + 3*i)
	}
	return b
}

// head answers the first six bytes of a message by numbers of two bytes.
func head(id, zero, length int) []byte {
	return []byte{byte(id >> 8), byte(id), byte(zero >> 8), byte(zero), byte(length >> 8), byte(length)}
}

// laid answers a message's bytes, written out here without the package's help.
func laid(id, unit int, pdu []byte) []byte {
	return slices.Concat(head(id, 0, len(pdu)+1), []byte{byte(unit)}, pdu)
}

func same(a, b []mbap.Msg) bool {
	return slices.EqualFunc(a, b, func(x, y mbap.Msg) bool {
		return x.ID == y.ID && x.Unit == y.Unit && slices.Equal(x.Pdu, y.Pdu)
	})
}

// state asks what the stream tells of itself.
func state(t *testing.T, s *mbap.Stream, n int, closed bool) {
	t.Helper()
	if s.Len() != n || s.Closed() != closed {
		t.Fatalf("P6.1: Len, Closed = %d, %v, want %d, %v", s.Len(), s.Closed(), n, closed)
	}
}

// put asks what Put of b tells, and how the stream stands then.
func put(t *testing.T, s *mbap.Stream, b []byte, want []mbap.Msg, n int, closed bool) {
	t.Helper()
	if got := s.Put(b); !same(got, want) {
		t.Fatalf("P6.1: Put(%x) = %v, want %v", b, got, want)
	}
	state(t, s, n, closed)
}

func TestBytes(t *testing.T) {
	cases := []struct {
		m    mbap.Msg
		want string
	}{
		{mbap.Msg{ID: 0x1234, Unit: 0x56, Pdu: []byte{3, 0, 107, 0, 3}}, "\x12\x34\x00\x00\x00\x06\x56\x03\x00\x6b\x00\x03"},
		{mbap.Msg{Pdu: []byte{17}}, "\x00\x00\x00\x00\x00\x02\x00\x11"},
		{mbap.Msg{ID: 65535, Unit: 255, Pdu: []byte{0}}, "\xff\xff\x00\x00\x00\x02\xff\x00"},
		{mbap.Msg{ID: 65536, Unit: 256, Pdu: []byte{9}}, "\x00\x00\x00\x00\x00\x02\x00\x09"},
		{mbap.Msg{ID: 0x7abcdef, Unit: 0x7abc, Pdu: []byte{9}}, "\xcd\xef\x00\x00\x00\x02\xbc\x09"},
		{mbap.Msg{ID: -1, Unit: -1, Pdu: []byte{9}}, "\xff\xff\x00\x00\x00\x02\xff\x09"},
		{mbap.Msg{ID: -2, Unit: -256, Pdu: []byte{9}}, "\xff\xfe\x00\x00\x00\x02\x00\x09"},
		{mbap.Msg{ID: math.MaxInt, Unit: math.MaxInt, Pdu: []byte{9}}, "\xff\xff\x00\x00\x00\x02\xff\x09"},
		{mbap.Msg{ID: math.MinInt, Unit: math.MinInt, Pdu: []byte{9}}, "\x00\x00\x00\x00\x00\x02\x00\x09"},
		{mbap.Msg{}, ""},
		{mbap.Msg{ID: 1, Unit: 1, Pdu: []byte{}}, ""},
		{mbap.Msg{ID: 1, Unit: 1, Pdu: row(254)}, ""},
	}
	for _, c := range cases {
		if got := mbap.Bytes(c.m); string(got) != c.want {
			t.Errorf("P6.1: Bytes(%v) = %x, want %x", c.m, got, c.want)
		}
	}
}

func TestBytesOfEachLength(t *testing.T) {
	lengths := []int{509, 512, 65535, 65536, 65537, 1 << 20}
	for n := range 300 {
		lengths = append(lengths, n)
	}
	for _, n := range lengths {
		var want []byte
		if n >= 1 && n <= 253 {
			want = laid(n, 17, row(n))
		}
		if got := mbap.Bytes(mbap.Msg{ID: n, Unit: 17, Pdu: row(n)}); !slices.Equal(got, want) {
			t.Errorf("P6.1: Bytes of a pdu of %d bytes = %x, want %x", n, got, want)
		}
	}
}

func TestPutOfBytes(t *testing.T) {
	s := mbap.New()
	for id := range 1 << 16 {
		m := mbap.Msg{ID: id, Unit: id & 255, Pdu: row(1 + id%253)}
		put(t, s, mbap.Bytes(m), []mbap.Msg{m}, 0, false)
	}
}

// A message is told by its last byte: none sooner, none twice.
func TestByteByByte(t *testing.T) {
	s := mbap.New()
	state(t, s, 0, false)
	for n := 1; n <= 253; n++ {
		m := mbap.Msg{ID: 1000 + n, Unit: n, Pdu: row(n)}
		b := laid(m.ID, m.Unit, m.Pdu)
		for i := range len(b) - 1 {
			put(t, s, b[i:i+1], nil, i+1, false)
			put(t, s, nil, nil, i+1, false)
		}
		put(t, s, b[len(b)-1:], []mbap.Msg{m}, 0, false)
		put(t, s, []byte{}, nil, 0, false)
	}
}

// Three messages and a beginning, in three pieces, cut in each way that there is.
func TestEachCut(t *testing.T) {
	ms := []mbap.Msg{{ID: 1, Unit: 2, Pdu: []byte("abc")}, {ID: 0, Unit: 0, Pdu: []byte{0}}, {ID: 65535, Unit: 255, Pdu: row(9)}}
	var all []byte
	for _, m := range ms {
		all = append(all, laid(m.ID, m.Unit, m.Pdu)...)
	}
	all = append(all, head(7, 0, 5)...)
	for i := range len(all) + 1 {
		for j := i; j <= len(all); j++ {
			s := mbap.New()
			got := s.Put(all[:i])
			got = append(got, s.Put(all[i:j])...)
			got = append(got, s.Put(all[j:])...)
			if !same(got, ms) {
				t.Fatalf("P6.1, W3: cut at %d, %d: %v", i, j, got)
			}
			state(t, s, 6, false)
		}
	}
}

// Each second number and each length, by the sixth byte and no sooner.
func TestHeads(t *testing.T) {
	for n := range 1 << 16 {
		s := mbap.New()
		good := head(n, 0, 2)
		put(t, s, good, nil, 6, false)

		s = mbap.New()
		zero := head(1, n, 2)
		put(t, s, zero[:5], nil, 5, false)
		if n == 0 {
			put(t, s, zero[5:], nil, 6, false)
		} else {
			put(t, s, zero[5:], nil, 0, true)
		}

		s = mbap.New()
		length := head(1, 0, n)
		put(t, s, length[:5], nil, 5, false)
		if n >= 2 && n <= 254 {
			put(t, s, length[5:], nil, 6, false)
		} else {
			put(t, s, length[5:], nil, 0, true)
		}
	}
}

// bad are beginnings that close a stream.
var bad = [][]byte{head(1, 1, 2), head(1, 256, 2), head(1, 65535, 2), head(1, 0, 0), head(1, 0, 1), head(1, 0, 255), head(1, 0, 256), head(1, 0, 258), head(1, 0, 65535), head(1, 1, 0), head(65535, 65535, 65535)}

func TestClosed(t *testing.T) {
	m := mbap.Msg{ID: 9, Unit: 8, Pdu: []byte{7, 6}}
	b := laid(m.ID, m.Unit, m.Pdu)
	for _, x := range bad {
		s := mbap.New()
		// What is whole ahead of the fault is told; what is behind it in the same row is gone.
		put(t, s, slices.Concat(b, b, x, b, b[:3]), []mbap.Msg{m, m}, 0, true)
		put(t, s, b, nil, 0, true)
		put(t, s, b[:1], nil, 0, true)
		put(t, s, nil, nil, 0, true)
		put(t, s, x, nil, 0, true)
		s.Open()
		state(t, s, 0, false)
		// None of what came to the closed stream is there any more.
		put(t, s, b[:4], nil, 4, false)
		put(t, s, b[4:], []mbap.Msg{m}, 0, false)
		put(t, s, x, nil, 0, true)
		s.Open()
		s.Open()
		put(t, s, slices.Concat(b, x[:5]), []mbap.Msg{m}, 5, false)
		put(t, s, x[5:], nil, 0, true)
	}
}

// The six bytes alone are looked at: what a unit or a pdu holds closes nothing.
func TestPduIsNotLookedAt(t *testing.T) {
	for _, x := range bad {
		m := mbap.Msg{ID: 0xffff, Unit: 0xff, Pdu: slices.Concat(x, x)}
		s := mbap.New()
		put(t, s, laid(m.ID, m.Unit, m.Pdu), []mbap.Msg{m}, 0, false)
	}
}

func TestOpenOfOneThatIsNotClosed(t *testing.T) {
	m := mbap.Msg{ID: 9, Unit: 8, Pdu: []byte{7, 6}}
	b := laid(m.ID, m.Unit, m.Pdu)
	for n := range len(b) {
		s := mbap.New()
		s.Open()
		put(t, s, b[:n], nil, n, false)
		s.Open()
		state(t, s, n, false)
		put(t, s, b[n:], []mbap.Msg{m}, 0, false)
		s.Open()
		state(t, s, 0, false)
	}
}

// model works the stream out another way: it keeps all that came since the last fault, and reads it anew each time.
type model struct {
	all    []byte
	told   int
	closed bool
}

func (m *model) put(b []byte) []mbap.Msg {
	if m.closed {
		return nil
	}
	m.all = append(m.all, b...)
	var ms []mbap.Msg
	rest := m.all
	for len(rest) >= 6 {
		length := int(rest[4])*256 + int(rest[5])
		if rest[2] != 0 || rest[3] != 0 || length < 2 || length > 254 {
			m.closed = true
			break
		}
		if len(rest) < 6+length {
			break
		}
		ms = append(ms, mbap.Msg{ID: int(rest[0])*256 + int(rest[1]), Unit: int(rest[6]), Pdu: rest[7 : 6+length]})
		rest = rest[6+length:]
	}
	out := ms[m.told:]
	m.told = len(ms)
	if m.closed {
		m.all, m.told = nil, 0
	}
	return out
}

func (m *model) len() int {
	n := len(m.all)
	for rest := m.all; len(rest) >= 6; {
		size := 6 + int(rest[4])*256 + int(rest[5])
		if len(rest) < size {
			break
		}
		rest, n = rest[size:], n-size
	}
	return n
}

// noise answers a row that is mostly messages, now and then with a fault.
func noise(r *rand.Rand) []byte {
	var b []byte
	for range r.Intn(6) {
		switch r.Intn(12) {
		case 0:
			b = append(b, bad[r.Intn(len(bad))]...)
		case 1:
			b = append(b, row(r.Intn(9))...)
		default:
			b = append(b, laid(r.Intn(1<<16), r.Intn(256), row(1+r.Intn(1+r.Intn(253))))...)
		}
	}
	return b
}

func TestRuns(t *testing.T) {
	r := rand.New(rand.NewSource(7))
	for range 300 {
		// Two at once: neither feels the other.
		streams, models := []*mbap.Stream{mbap.New(), mbap.New()}, []*model{{}, {}}
		rows := make([][]byte, 2)
		for range 120 {
			k := r.Intn(2)
			if len(rows[k]) == 0 {
				rows[k] = noise(r)
			}
			if r.Intn(10) == 0 {
				streams[k].Open()
				models[k].closed = false
			} else {
				n := min(len(rows[k]), r.Intn(40))
				put(t, streams[k], rows[k][:n], models[k].put(rows[k][:n]), models[k].len(), models[k].closed)
				rows[k] = rows[k][n:]
			}
			state(t, streams[1-k], models[1-k].len(), models[1-k].closed)
		}
	}
}

func TestMany(t *testing.T) {
	const n = 1 << 16
	s := mbap.New()
	one := laid(5, 6, row(20))
	got := s.Put(append(slices.Repeat(one, n), one[:8]...))
	if len(got) != n || !same(got[n-1:], []mbap.Msg{{ID: 5, Unit: 6, Pdu: row(20)}}) {
		t.Errorf("P6.1: Put of many messages told %d", len(got))
	}
	state(t, s, 8, false)
	put(t, s, slices.Concat(one[8:], head(1, 1, 1), slices.Repeat(one, n)), []mbap.Msg{{ID: 5, Unit: 6, Pdu: row(20)}}, 0, true)
}

func TestBytesIsNewMemory(t *testing.T) {
	for _, n := range []int{0, 1, 5, 253, 254} {
		for _, mark := range []byte{0, 0xff} {
			in := roomy(row(n), mark)
			keep := slices.Clone(whole(in))
			b := mbap.Bytes(mbap.Msg{ID: 1, Unit: 2, Pdu: in})
			again := mbap.Bytes(mbap.Msg{ID: 1, Unit: 2, Pdu: in})
			want := slices.Clone(mbap.Bytes(mbap.Msg{ID: 1, Unit: 2, Pdu: row(n)}))
			if !slices.Equal(b, want) {
				t.Fatalf("R5: Bytes of a pdu of %d bytes hangs on the room behind", n)
			}
			scribble(b, 0x5a)
			if !slices.Equal(whole(in), keep) {
				t.Fatalf("R2: Bytes changed a pdu of %d bytes, or shares it", n)
			}
			scribble(in, 0x77)
			if !slices.Equal(again, want) {
				t.Fatalf("R2: what Bytes answered of %d bytes is not new memory", n)
			}
		}
	}
}

func TestPutIsNewMemory(t *testing.T) {
	ms := []mbap.Msg{{ID: 1, Unit: 2, Pdu: row(3)}, {ID: 3, Unit: 4, Pdu: row(1)}, {ID: 5, Unit: 6, Pdu: row(253)}}
	var all []byte
	for _, m := range ms {
		all = append(all, laid(m.ID, m.Unit, m.Pdu)...)
	}
	for cut := range all {
		// Room that would go on with the message, if it were read.
		one, two := roomy(all[:cut], all[cut]), roomy(all[cut:], 0)
		keepOne, keepTwo := slices.Clone(whole(one)), slices.Clone(whole(two))
		s := mbap.New()
		first := s.Put(one)
		if !slices.Equal(whole(one), keepOne) {
			t.Fatalf("R2: Put of the first %d bytes changed them", cut)
		}
		// What waits must not lie in what was handed in, nor in what was answered.
		scribble(one, 0x5a)
		for i, m := range first {
			if m.ID != ms[i].ID || m.Unit != ms[i].Unit || !slices.Equal(m.Pdu, ms[i].Pdu) {
				t.Fatalf("R2: cut at %d: what Put answered lies in what it was given", cut)
			}
			scribble(m.Pdu, 0x5a)
		}
		scribble(first, mbap.Msg{ID: -1})
		told := len(first)
		second := s.Put(two)
		if !slices.Equal(whole(two), keepTwo) || !same(second, ms[told:]) {
			t.Fatalf("R2: cut at %d: Put = %v, want %v", cut, second, ms[told:])
		}
		for i, m := range whole(second)[len(second):] {
			if m.ID != 0 || m.Unit != 0 || len(m.Pdu) != 0 {
				t.Fatalf("R2: behind the messages of Put stands %v at %d", m, i)
			}
		}
		scribble(two, 0x77)
		s.Put(all)
		for i := range second {
			if !same(second[i:], ms[told+i:]) {
				t.Fatalf("R2: cut at %d: messages of Put share memory", cut)
			}
			scribble(second[i].Pdu, 0x5a)
		}
		state(t, s, 0, false)
	}
}

// An answer's last messages must not share either: here the later are overwritten ahead of the earlier.
func TestPutSharesNoMemoryBackwards(t *testing.T) {
	s := mbap.New()
	got := s.Put(slices.Concat(laid(1, 2, row(3)), laid(1, 2, row(5)), laid(1, 2, row(2))))
	if len(got) != 3 {
		t.Fatalf("P6.1: %v", got)
	}
	for i, n := range []int{2, 5, 3} {
		m := got[2-i]
		if !slices.Equal(m.Pdu, row(n)) {
			t.Fatalf("R2: message %d shares memory with a later one: %v", 2-i, m)
		}
		scribble(m.Pdu, 0x5a)
	}
}

func TestExamples(t *testing.T) {
	put(t, mbap.New(), nil, nil, 0, false)
	put(t, mbap.New(), []byte{}, nil, 0, false)
	put(t, mbap.New(), []byte{0, 1, 0, 1, 0}, nil, 5, false)
	s := mbap.New()
	s.Open()
	state(t, s, 0, false)
}
