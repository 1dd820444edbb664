package reply_test

import (
	"math"
	"math/rand"
	"slices"
	"testing"

	"burgage/api"
	"burgage/pdu"
	"burgage/reply"
)

// roomy answers a list with what l holds and, behind its length, room filled with mark.
func roomy[T any](l []T, mark T) []T {
	all := slices.Concat(l, slices.Repeat([]T{mark}, 16))
	return all[:len(l):len(all)]
}

// whole answers l with the room behind it.
func whole[T any](l []T) []T { return l[:cap(l)] }

// scribble overwrites l and the room behind it.
func scribble[T any](l []T, mark T) {
	for i := range whole(l) {
		whole(l)[i] = mark
	}
}

// bits, vals and data answer lists of n that are not all the same.
func bits(n int) []bool {
	out := make([]bool, n)
	for i := range out {
		out[i] = i%3 != 1
	}
	return out
}

func vals(n int) []uint16 {
	out := make([]uint16, n)
	for i := range out {
		out[i] = uint16(257*i + 3)
	}
	return out
}

func data(n int) []byte {
	out := make([]byte, n)
	for i := range out {
		out[i] = byte(7*i + 1)
	}
	return out
}

// functions are all that there are.
var functions = []int{1, 2, 3, 4, 5, 6, 8, 15, 16, 17, 22, 23}

// written are answers with their bytes, worked out by hand.
var written = []struct {
	r    api.Reply
	want string
}{
	{api.Reply{Fn: 1}, "\x01\x00"},
	{api.Reply{Fn: 1, Bits: []bool{false}}, "\x01\x01\x00"},
	{api.Reply{Fn: 1, Bits: []bool{false, true, true}}, "\x01\x01\x06"},
	{api.Reply{Fn: 2, Bits: []bool{true, false, false, false, false, false, true, true}}, "\x02\x01\xc1"},
	{api.Reply{Fn: 2, Bits: []bool{false, true, false, false, false, false, false, false, true}}, "\x02\x02\x02\x01"},
	{api.Reply{Fn: 3, Vals: []uint16{0x0102}}, "\x03\x02\x01\x02"},
	{api.Reply{Fn: 4, Vals: []uint16{1, 2, 0xffff}}, "\x04\x06\x00\x01\x00\x02\xff\xff"},
	{api.Reply{Fn: 23, Vals: []uint16{0xfe01, 0x8000}}, "\x17\x04\xfe\x01\x80\x00"},
	{api.Reply{Fn: 23}, "\x17\x00"},
	{api.Reply{Fn: 5, At: 513, Bits: []bool{true}}, "\x05\x02\x01\xff\x00"},
	{api.Reply{Fn: 5, At: 65535, Bits: []bool{false}}, "\x05\xff\xff\x00\x00"},
	{api.Reply{Fn: 6, At: 513, Vals: []uint16{0xfe01}}, "\x06\x02\x01\xfe\x01"},
	{api.Reply{Fn: 8, Sub: 4660, Vals: []uint16{0x5678}}, "\x08\x12\x34\x56\x78"},
	{api.Reply{Fn: 15, At: 258, Count: 772}, "\x0f\x01\x02\x03\x04"},
	{api.Reply{Fn: 15}, "\x0f\x00\x00\x00\x00"},
	{api.Reply{Fn: 16, At: 65535, Count: 1}, "\x10\xff\xff\x00\x01"},
	{api.Reply{Fn: 16, At: 1, Count: 65535}, "\x10\x00\x01\xff\xff"},
	{api.Reply{Fn: 17}, "\x11\x00"},
	{api.Reply{Fn: 17, Data: []byte{255, 0, 7}}, "\x11\x03\xff\x00\x07"},
	{api.Reply{Fn: 22, At: 258, And: 0x0304, Or: 0x0506}, "\x16\x01\x02\x03\x04\x05\x06"},
	{api.Reply{Fn: 22}, "\x16\x00\x00\x00\x00\x00\x00"},
	{api.Reply{Fn: 3, Code: 2}, "\x83\x02"},
	{api.Reply{Fn: 0, Code: 1}, "\x80\x01"},
	{api.Reply{Fn: 7, Code: 1}, "\x87\x01"},
	{api.Reply{Fn: 127, Code: 255}, "\xff\xff"},
}

// request answers one that r is an answer to.
func request(r api.Reply) api.Request {
	return api.Request{Fn: r.Fn, Count: max(len(r.Bits), len(r.Vals))}
}

// rights answers Right answers: those above, and more at the edges and in between.
func rights() []api.Reply {
	var out []api.Reply
	for _, c := range written {
		out = append(out, c.r)
	}
	for _, n := range []int{0, 1, 2, 7, 8, 9, 15, 16, 17, 255, 256, 1999, 2000, 2001, 2032, 2033, 2039, 2040} {
		out = append(out, api.Reply{Fn: 1, Bits: bits(n)}, api.Reply{Fn: 2, Bits: bits(n)})
	}
	for _, n := range []int{0, 1, 2, 3, 63, 64, 121, 124, 125, 126, 127} {
		out = append(out, api.Reply{Fn: 3, Vals: vals(n)}, api.Reply{Fn: 4, Vals: vals(n)}, api.Reply{Fn: 23, Vals: vals(n)})
	}
	for _, n := range []int{0, 1, 2, 127, 128, 249, 250} {
		out = append(out, api.Reply{Fn: 17, Data: data(n)})
	}
	for n := 0; n < 65536; n += 251 {
		v := []uint16{uint16(n)}
		out = append(out, api.Reply{Fn: 5, At: n, Bits: []bool{n%2 == 0}}, api.Reply{Fn: 6, At: 65535 - n, Vals: v},
			api.Reply{Fn: 8, Sub: n, Vals: v}, api.Reply{Fn: 22, At: n, And: uint16(3 * n), Or: uint16(5 * n)},
			api.Reply{Fn: 15, At: n, Count: 65535 - n}, api.Reply{Fn: 16, At: 65535 - n, Count: n})
	}
	for fn := range 128 {
		out = append(out, api.Reply{Fn: fn, Code: 1}, api.Reply{Fn: fn, Code: 255}, api.Reply{Fn: fn, Code: 2*fn + 1})
	}
	return out
}

func TestBytes(t *testing.T) {
	for _, c := range written {
		if b, why := reply.Bytes(c.r); string(b) != c.want || why != api.OK {
			t.Errorf("P4.1: Bytes(%+v) = %x, %d, want %x", c.r, b, int(why), c.want)
		}
		if r, why := reply.Read([]byte(c.want), request(c.r)); !reply.Same(r, c.r) || why != api.OK {
			t.Errorf("P4.2: Read(%x) = %+v, %d, want %+v", c.want, r, int(why), c.r)
		}
	}
}

func TestReadOfBytes(t *testing.T) {
	for _, r := range rights() {
		if why := reply.Right(r); why != api.OK {
			t.Fatalf("P4.1: Right(%+v) = %d", r, int(why))
		}
		b, why := reply.Bytes(r)
		if why != api.OK || !formed(b, request(r)) {
			t.Fatalf("P4.1: Bytes(%+v) = %x, %d, which is no answer", r, b, int(why))
		}
		q := request(r)
		if got, why := reply.Read(b, q); why != api.OK || !reply.Same(got, r) {
			t.Fatalf("P4.3: Read(Bytes(%+v)) = %+v, %d", r, got, int(why))
		}
		for _, more := range []int{-1, 1, 7, 8, 256, 65536, 1 << 32} {
			q.Count = request(r).Count + more
			holds(t, b, q)
		}
		q.Count = math.MaxInt
		holds(t, b, q)
		q.Count = math.MinInt
		holds(t, b, q)
	}
}

// What q asks beside its function and how many is not asked by Read.
func TestReadAsksNoMore(t *testing.T) {
	q := api.Request{At: -5, WAt: 9, Sub: math.MinInt, Bits: bits(3), Vals: vals(200), And: 4, Or: 5}
	for _, r := range rights() {
		b, _ := reply.Bytes(r)
		q.Fn, q.Count = r.Fn, request(r).Count
		if got, why := reply.Read(b, q); why != api.OK || !reply.Same(got, r) {
			t.Fatalf("P4.2: Read(%x, %+v) = %+v, %d", b, q, got, int(why))
		}
	}
}

// field is one of Reply's: whether a function has it, and how it is made other than zero.
type field struct {
	name string
	of   []int
	set  func(r *api.Reply)
}

var fields = []field{
	{"At", []int{5, 6, 15, 16, 22}, func(r *api.Reply) { r.At = 1 }},
	{"Count", []int{15, 16}, func(r *api.Reply) { r.Count = 1 }},
	{"Sub", []int{8}, func(r *api.Reply) { r.Sub = 1 }},
	{"Bits", []int{1, 2, 5}, func(r *api.Reply) { r.Bits = []bool{false} }},
	{"Vals", []int{3, 4, 6, 8, 23}, func(r *api.Reply) { r.Vals = []uint16{0} }},
	{"And", []int{22}, func(r *api.Reply) { r.And = 1 }},
	{"Or", []int{22}, func(r *api.Reply) { r.Or = 1 }},
	{"Data", []int{17}, func(r *api.Reply) { r.Data = []byte{0} }},
}

// full answers a Right answer of fn in which every field that it has is other than zero.
func full(fn int) api.Reply {
	r := api.Reply{Fn: fn}
	for _, f := range fields {
		if slices.Contains(f.of, fn) {
			f.set(&r)
		}
	}
	return r
}

// refused holds that Right and Bytes refuse r so.
func refused(t *testing.T, r api.Reply, want api.Errno) {
	t.Helper()
	if why := reply.Right(r); why != want {
		t.Errorf("P4.1: Right(%+v) = %d, want %d", r, int(why), int(want))
	}
	if b, why := reply.Bytes(r); len(b) != 0 || why != want {
		t.Errorf("P4.1: Bytes(%+v) = %x, %d, want nothing, %d", r, b, int(why), int(want))
	}
}

func TestRightByFields(t *testing.T) {
	for _, fn := range functions {
		if why := reply.Right(full(fn)); why != api.OK {
			t.Errorf("P4.1: Right(%+v) = %d", full(fn), int(why))
		}
		for _, f := range fields {
			if slices.Contains(f.of, fn) {
				continue
			}
			r := full(fn)
			f.set(&r)
			refused(t, r, api.ErrForm)
		}
		r := full(fn)
		r.Bits, r.Vals, r.Data = append([]bool{}, r.Bits...), append([]uint16{}, r.Vals...), append([]byte{}, r.Data...)
		if why := reply.Right(r); why != api.OK {
			t.Errorf("R4: function %d with empty lists: Right = %d", fn, int(why))
		}
	}
}

func TestRightByFunctions(t *testing.T) {
	for fn := -300; fn <= 600; fn++ {
		want := api.ErrFn
		if slices.Contains(functions, fn) {
			want = api.OK
		}
		if why := reply.Right(full(fn)); why != want {
			t.Errorf("P4.1: Right of function %d = %d, want %d", fn, int(why), int(want))
		}
	}
	for _, fn := range []int{math.MinInt, math.MinInt + 3, math.MaxInt, 1<<32 + 3, 65536 + 3, 0x83, 7, 0, -3} {
		refused(t, api.Reply{Fn: fn}, api.ErrFn)
		// The function is asked first (R8).
		refused(t, api.Reply{Fn: fn, At: -1, Count: math.MaxInt, Sub: 1, Bits: bits(3), Vals: vals(200), And: 1, Or: 1, Data: data(3)}, api.ErrFn)
	}
}

func TestRightByCodes(t *testing.T) {
	for code := -300; code <= 600; code++ {
		if code == 0 {
			continue
		}
		for _, fn := range []int{0, 1, 3, 7, 17, 127} {
			want := api.ErrForm
			if code >= 1 && code <= 255 {
				want = api.OK
			}
			if why := reply.Right(api.Reply{Fn: fn, Code: code}); why != want {
				t.Errorf("P4.1: Right of function %d, Code %d = %d", fn, code, int(why))
			}
		}
	}
	for fn := -300; fn <= 600; fn++ {
		want := api.ErrForm
		if fn >= 0 && fn <= 127 {
			want = api.OK
		}
		if why := reply.Right(api.Reply{Fn: fn, Code: 4}); why != want {
			t.Errorf("P4.1: Right of function %d, Code 4 = %d", fn, int(why))
		}
	}
	for _, n := range []int{math.MinInt, math.MinInt + 3, math.MaxInt, 1<<32 + 3, 256, 65536 + 3, -1} {
		refused(t, api.Reply{Fn: 3, Code: n}, api.ErrForm)
		refused(t, api.Reply{Fn: n, Code: 3}, api.ErrForm)
		refused(t, api.Reply{Fn: n, Code: n}, api.ErrForm)
	}
	// With a Code no function has any field, not even its own; and what is wrong is the form (R8).
	for _, fn := range append([]int{0, 7, 128, -1}, functions...) {
		for _, f := range fields {
			r := api.Reply{Fn: fn, Code: 2}
			f.set(&r)
			refused(t, r, api.ErrForm)
		}
	}
	r := api.Reply{Fn: 9, Code: 2, Bits: []bool{}, Vals: []uint16{}, Data: []byte{}}
	if why := reply.Right(r); why != api.OK {
		t.Errorf("R4: a Code beside empty lists: Right = %d", int(why))
	}
}

func TestRightByNumbers(t *testing.T) {
	numbers := []struct {
		of  []int
		set func(r *api.Reply, n int)
	}{
		{[]int{5, 6, 15, 16, 22}, func(r *api.Reply, n int) { r.At = n }},
		{[]int{15, 16}, func(r *api.Reply, n int) { r.Count = n }},
		{[]int{8}, func(r *api.Reply, n int) { r.Sub = n }},
	}
	for i, f := range numbers {
		for _, fn := range f.of {
			for _, n := range []int{0, 1, 255, 256, 32768, 65534, 65535} {
				r := full(fn)
				f.set(&r, n)
				if why := reply.Right(r); why != api.OK {
					t.Errorf("P4.1: number %d of function %d is %d: Right = %d", i, fn, n, int(why))
				}
			}
			for _, n := range []int{-1, 65536, 65537, 131072, 1 << 32, math.MaxInt, math.MinInt, -65536} {
				r := full(fn)
				f.set(&r, n)
				refused(t, r, api.ErrForm)
			}
		}
	}
}

func TestRightByLists(t *testing.T) {
	for _, n := range []int{0, 2, 3, 16} {
		refused(t, api.Reply{Fn: 5, Bits: bits(n)}, api.ErrForm)
		refused(t, api.Reply{Fn: 6, Vals: vals(n)}, api.ErrForm)
		refused(t, api.Reply{Fn: 8, Vals: vals(n)}, api.ErrForm)
	}
	for _, n := range []int{2041, 2048, 4096, 65535, 65536} {
		refused(t, api.Reply{Fn: 1, Bits: bits(n)}, api.ErrForm)
		refused(t, api.Reply{Fn: 2, Bits: bits(n)}, api.ErrForm)
	}
	for _, n := range []int{128, 129, 255, 256, 65535, 65536} {
		refused(t, api.Reply{Fn: 3, Vals: vals(n)}, api.ErrForm)
		refused(t, api.Reply{Fn: 4, Vals: vals(n)}, api.ErrForm)
		refused(t, api.Reply{Fn: 23, Vals: vals(n)}, api.ErrForm)
	}
	for _, n := range []int{251, 252, 255, 256, 512, 65536} {
		refused(t, api.Reply{Fn: 17, Data: data(n)}, api.ErrForm)
	}
}

func TestRefuse(t *testing.T) {
	for fn := -300; fn <= 600; fn++ {
		for _, code := range []int{0, 1, 2, 127, 128, 255, 256, 257, 511, 65536 + 7, -1, -2, -256, math.MinInt + 9, math.MaxInt} {
			// The remainder that is not below nought, taken without a mask.
			want := api.Reply{Fn: ((fn % 128) + 128) % 128, Code: ((code % 256) + 256) % 256}
			if r := reply.Refuse(fn, code); !reply.Same(r, want) {
				t.Fatalf("P4.1: Refuse(%d, %d) = %+v, want %+v", fn, code, r, want)
			}
		}
	}
	for _, fn := range []int{math.MinInt, math.MinInt + 3, math.MaxInt, 1<<40 + 3} {
		if r := reply.Refuse(fn, 1<<40+6); r.Fn != ((fn%128)+128)%128 || r.Code != 6 {
			t.Errorf("P4.1: Refuse(%d, ..) = %+v", fn, r)
		}
	}
	if b, why := reply.Bytes(reply.Refuse(3, 2)); !slices.Equal(b, []byte{0x83, 2}) || why != api.OK {
		t.Errorf("P4.1: Bytes of Refuse(3, 2) = %x, %d", b, int(why))
	}
	// No code is left of 256: what is answered is an answer without one.
	refused(t, reply.Refuse(7, 256), api.ErrFn)
}

// formed tells in another way than the package's whether b is the bytes of a Right answer to q.
func formed(b []byte, q api.Request) bool {
	if len(b) == 0 || q.Fn < 0 || q.Fn > 255 || int(b[0]) != q.Fn && int(b[0]) != q.Fn+128 {
		return false
	}
	if b[0] > 127 {
		return len(b) == 2 && b[1] != 0
	}
	if slices.Contains([]byte{1, 2, 3, 4, 17, 23}, b[0]) && (len(b) < 2 || len(b) != 2+int(b[1])) {
		return false
	}
	switch b[0] {
	case 1, 2:
		n := q.Count
		return n >= 0 && n <= 2040 && (n+7)/8 == int(b[1]) && (n%8 == 0 || int(b[len(b)-1]) < 1<<(n%8))
	case 3, 4, 23:
		return b[1]%2 == 0 && int(b[1])/2 == q.Count
	case 5:
		return len(b) == 5 && (b[3] == 255 || b[3] == 0) && b[4] == 0
	case 6, 8, 15, 16:
		return len(b) == 5
	case 17:
		return b[1] <= 250
	case 22:
		return len(b) == 7
	}
	return false
}

// holds asks Read of b and q against the promise.
func holds(t *testing.T, b []byte, q api.Request) {
	t.Helper()
	want := api.OK
	switch {
	case len(b) == 0:
		want = api.ErrShort
	case !formed(b, q):
		want = api.ErrForm
	}
	r, why := reply.Read(b, q)
	if why != want {
		t.Fatalf("P4.2: Read(%x, %+v) = %d, want %d", b, q, int(why), int(want))
	}
	if why != api.OK {
		if !reply.Same(r, api.Reply{}) {
			t.Fatalf("R3: Read(%x, %+v) = %+v beside %d", b, q, r, int(why))
		}
		return
	}
	if again, no := reply.Bytes(r); no != api.OK || !slices.Equal(again, b) {
		t.Fatalf("P4.2: Bytes(Read(%x)) = %x, %d", b, again, int(no))
	}
}

// about asks Read of b and requests of many counts, of the function and of others beside it.
func about(t *testing.T, b []byte) {
	t.Helper()
	fn := 0
	if len(b) > 0 {
		fn = int(b[0])
	}
	for _, f := range []int{fn, fn - 128, fn + 128, fn + 256, fn ^ 1} {
		for _, n := range []int{0, 1, 8, len(b) - 3, (len(b) - 2) / 2, 8*len(b) - 24, 8*len(b) - 23, 8*len(b) - 17, 8*len(b) - 16, 8*len(b) - 15} {
			holds(t, b, api.Request{Fn: f, Count: n})
		}
	}
}

func TestReadOfWrong(t *testing.T) {
	for fn := -300; fn <= 600; fn++ {
		holds(t, nil, api.Request{Fn: fn, Count: 1})
		holds(t, []byte{}, api.Request{Fn: fn})
		for first := range 256 {
			holds(t, []byte{byte(first), 0}, api.Request{Fn: fn})
			holds(t, []byte{byte(first), 2}, api.Request{Fn: fn, Count: 3})
			holds(t, []byte{byte(first), 2, 0, 0}, api.Request{Fn: fn, Count: 1})
			holds(t, []byte{byte(first), 0, 0, 0, 0}, api.Request{Fn: fn})
			holds(t, []byte{byte(first)}, api.Request{Fn: fn})
		}
	}
	for _, fn := range []int{math.MinInt, math.MinInt + 3, math.MaxInt, math.MaxInt - 124, 1<<32 + 3, 256 + 3, -125} {
		holds(t, []byte{3, 0}, api.Request{Fn: fn})
		holds(t, []byte{0x83, 1}, api.Request{Fn: fn})
	}
	for fn := range 256 {
		for n := range 300 {
			// The edges are short ones, and those near what a byte counts.
			if n > 20 && n < 245 {
				continue
			}
			b := make([]byte, n+1)
			b[0] = byte(fn)
			about(t, b)
			scribble(b[1:], 255)
			about(t, b)
			if n > 0 {
				b[1] = byte(n - 1)
				about(t, b)
			}
		}
	}
	for _, c := range written {
		q, b := request(c.r), []byte(c.want)
		for n := range b {
			holds(t, b[:n], q)
			for x := range 256 {
				other := slices.Clone(b)
				other[n] = byte(x)
				holds(t, other, q)
				about(t, other)
			}
		}
		for x := range 256 {
			holds(t, append(slices.Clone(b), byte(x)), q)
			holds(t, append(slices.Clone(b), 0, byte(x)), q)
		}
	}
}

func TestReadOfCounts(t *testing.T) {
	for _, fn := range []int{1, 2, 3, 4, 17, 23} {
		for size := range 258 {
			for _, told := range []int{size - 1, size, size + 1} {
				b := append([]byte{byte(fn), byte(told)}, make([]byte, size)...)
				for _, n := range []int{-1, 0, 1, size / 2, size/2 + 1, size, 8*size - 8, 8*size - 7, 8*size - 1, 8 * size, 8*size + 1, 256 + size/2, 65535, math.MaxInt, math.MinInt} {
					holds(t, b, api.Request{Fn: fn, Count: n})
				}
			}
		}
	}
	r := rand.New(rand.NewSource(4))
	for range 50000 {
		b := make([]byte, r.Intn(12))
		r.Read(b)
		q := api.Request{Fn: r.Intn(25), Count: r.Intn(20)}
		if len(b) > 1 {
			b[0], b[1] = byte(q.Fn+128*r.Intn(2)), byte(len(b)-2)
		}
		holds(t, b, q)
	}
	holds(t, append([]byte{3, 2}, make([]byte, 1<<20)...), api.Request{Fn: 3, Count: 1 << 19})
	holds(t, append([]byte{1, 0}, make([]byte, 1<<20)...), api.Request{Fn: 1, Count: 1 << 23})
	holds(t, append([]byte{17, 0}, make([]byte, 1<<20)...), api.Request{Fn: 17})
}

// A request of 128 and more is answered by an exception to the function that is left without the highest bit.
func TestReadOfHighFunctions(t *testing.T) {
	for fn := 128; fn < 256; fn++ {
		r, why := reply.Read([]byte{byte(fn), 9}, api.Request{Fn: fn, Count: 4})
		if why != api.OK || !reply.Same(r, api.Reply{Fn: fn - 128, Code: 9}) {
			t.Errorf("P4.2: Read of %x 9 to function %d = %+v, %d", fn, fn, r, int(why))
		}
	}
}

func TestExamples(t *testing.T) {
	for _, q := range []api.Request{{}, {Fn: 3, Count: 1}, {Fn: -1}, {Fn: 300}} {
		if r, why := reply.Read(nil, q); why != api.ErrShort || !reply.Same(r, api.Reply{}) {
			t.Errorf("P4.2: Read of nothing: %+v, %d", r, int(why))
		}
	}
	if b, why := reply.Bytes(api.Reply{}); why != api.ErrFn || len(b) != 0 {
		t.Errorf("P4.1: Bytes of a zero Reply: %x, %d", b, int(why))
	}
	// An answer that repeats a request is its bytes.
	for _, q := range []api.Request{{Fn: 5, At: 9, Bits: []bool{true}}, {Fn: 6, At: 9, Vals: []uint16{8}}, {Fn: 8, Sub: 9, Vals: []uint16{8}}, {Fn: 22, At: 9, And: 8, Or: 7}} {
		b, _ := pdu.Bytes(q)
		r, why := reply.Read(b, q)
		if again, _ := reply.Bytes(r); why != api.OK || !slices.Equal(again, b) {
			t.Errorf("P4.1: the answer that repeats %+v: %+v, %d", q, r, int(why))
		}
	}
}

func TestSame(t *testing.T) {
	a := api.Reply{Fn: -9, Code: 300, At: math.MaxInt, Count: -2, Sub: math.MinInt, Bits: bits(3), Vals: vals(3), And: 8, Or: 9, Data: data(3)}
	b := a
	b.Bits, b.Vals, b.Data = slices.Clone(a.Bits), slices.Clone(a.Vals), slices.Clone(a.Data)
	if !reply.Same(a, b) || !reply.Same(a, a) || !reply.Same(api.Reply{}, api.Reply{}) {
		t.Error("P4.2: Same of the same")
	}
	turns := []func(r *api.Reply){
		func(r *api.Reply) { r.Fn = 0 },
		func(r *api.Reply) { r.Code = 300 - 256 },
		func(r *api.Reply) { r.At-- },
		func(r *api.Reply) { r.Count = 2 },
		func(r *api.Reply) { r.Sub = 0 },
		func(r *api.Reply) { r.Bits = nil },
		func(r *api.Reply) { r.Bits = bits(2) },
		func(r *api.Reply) { r.Bits = append(bits(3), false) },
		func(r *api.Reply) { r.Bits = []bool{true, false, false} },
		func(r *api.Reply) { r.Vals = nil },
		func(r *api.Reply) { r.Vals = vals(2) },
		func(r *api.Reply) { r.Vals = append(vals(3), 0) },
		func(r *api.Reply) { r.Vals = append(vals(2), 1) },
		func(r *api.Reply) { r.And = 0 },
		func(r *api.Reply) { r.Or = 8 },
		func(r *api.Reply) { r.Data = nil },
		func(r *api.Reply) { r.Data = data(2) },
		func(r *api.Reply) { r.Data = append(data(3), 0) },
		func(r *api.Reply) { r.Data = append(data(2), 0) },
	}
	for i, turn := range turns {
		c := b
		turn(&c)
		if reply.Same(a, c) || reply.Same(c, a) {
			t.Errorf("P4.2: Same of others, turn %d", i)
		}
	}
	if !reply.Same(api.Reply{Bits: []bool{}, Vals: []uint16{}, Data: []byte{}}, api.Reply{}) {
		t.Error("R4: Same of empty lists and none")
	}
}

func TestNothingChanged(t *testing.T) {
	wrong := []api.Reply{{Fn: 7, Bits: bits(5), Vals: vals(5), Data: data(5)}, {Fn: 5, Bits: bits(5)}, {Fn: 3, Code: 4, Vals: vals(2)}}
	for _, r := range append(rights(), wrong...) {
		var first []byte
		for _, mark := range []uint16{0, 0xffff} {
			in := r
			in.Bits, in.Vals, in.Data = roomy(r.Bits, mark != 0), roomy(r.Vals, mark), roomy(r.Data, byte(mark))
			keepBits, keepVals, keepData := slices.Clone(whole(in.Bits)), slices.Clone(whole(in.Vals)), slices.Clone(whole(in.Data))
			b, why := reply.Bytes(in)
			if reply.Right(in) != why || reply.Right(r) != why || !reply.Same(in, r) {
				t.Fatalf("R5: %+v with room behind it", r)
			}
			if mark != 0 && !slices.Equal(b, first) {
				t.Fatalf("R5: Bytes(%+v) hangs on the room behind", r)
			}
			first = slices.Clone(b)
			scribble(b, 0x5a)
			if !slices.Equal(whole(in.Bits), keepBits) || !slices.Equal(whole(in.Vals), keepVals) || !slices.Equal(whole(in.Data), keepData) {
				t.Fatalf("R2: %+v was changed", r)
			}
			if again, _ := reply.Bytes(in); !slices.Equal(again, first) {
				t.Fatalf("R2: Bytes(%+v) is not new memory", r)
			}
		}
	}
}

func TestReadIsNewMemory(t *testing.T) {
	for _, want := range rights() {
		b, _ := reply.Bytes(want)
		for _, mark := range []byte{0, 0xff} {
			in, q := roomy(b, mark), request(want)
			q.Bits, q.Vals = roomy(bits(1), mark != 0), roomy(vals(1), uint16(mark))
			keep, keepBits, keepVals := slices.Clone(whole(in)), slices.Clone(whole(q.Bits)), slices.Clone(whole(q.Vals))
			r, why := reply.Read(in, q)
			if why != api.OK || !reply.Same(r, want) {
				t.Fatalf("R5: Read(%x) with room behind it: %+v, %d", b, r, int(why))
			}
			again, _ := reply.Read(in, q)
			scribble(r.Bits, true)
			scribble(r.Vals, 0x5a5a)
			scribble(r.Data, 0x5a)
			if !slices.Equal(whole(in), keep) || !slices.Equal(whole(q.Bits), keepBits) || !slices.Equal(whole(q.Vals), keepVals) {
				t.Fatalf("R2: Read changed %x, or its answer shares it", b)
			}
			scribble(in, 0x77)
			scribble(q.Bits, true)
			scribble(q.Vals, 0x7777)
			if !reply.Same(again, want) {
				t.Fatalf("R2: Read(%x) is not new memory", b)
			}
			// What is cut off stands behind the length, and is not read.
			for n := range b {
				holds(t, roomy(b, mark)[:n], request(want))
			}
		}
	}
}
