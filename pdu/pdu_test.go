package pdu_test

import (
	"math"
	"math/rand"
	"slices"
	"testing"

	"burgage/api"
	"burgage/pdu"
)

// roomy answers a list with what l holds and, behind its length, room filled with mark.
func roomy[T any](l []T, mark T) []T {
	all := slices.Concat(l, slices.Repeat([]T{mark}, 16))
	return all[:len(l):len(all)]
}

// whole answers l with the room behind it.
func whole[T any](l []T) []T { return l[:cap(l)] }

// scribble overwrites l and the room behind it.
func scribble[T any](l []T, mark T) {
	for i := range whole(l) {
		whole(l)[i] = mark
	}
}

// bits and vals answer lists of n that are not all the same.
func bits(n int) []bool {
	out := make([]bool, n)
	for i := range out {
		out[i] = i%3 != 1
	}
	return out
}

func vals(n int) []uint16 {
	out := make([]uint16, n)
	for i := range out {
		out[i] = uint16(257*i + 3)
	}
	return out
}

// functions are all that there are.
var functions = []int{1, 2, 3, 4, 5, 6, 8, 15, 16, 17, 22, 23}

// written are requests with their bytes, worked out by hand.
var written = []struct {
	r    api.Request
	want string
}{
	{api.Request{Fn: 1, At: 258, Count: 772}, "\x01\x01\x02\x03\x04"},
	{api.Request{Fn: 1}, "\x01\x00\x00\x00\x00"},
	{api.Request{Fn: 2, At: 65535, Count: 1}, "\x02\xff\xff\x00\x01"},
	{api.Request{Fn: 3, At: 1, Count: 65535}, "\x03\x00\x01\xff\xff"},
	{api.Request{Fn: 4, At: 256, Count: 255}, "\x04\x01\x00\x00\xff"},
	{api.Request{Fn: 5, At: 513, Bits: []bool{true}}, "\x05\x02\x01\xff\x00"},
	{api.Request{Fn: 5, At: 513, Bits: []bool{false}}, "\x05\x02\x01\x00\x00"},
	{api.Request{Fn: 6, At: 513, Vals: []uint16{0xfe01}}, "\x06\x02\x01\xfe\x01"},
	{api.Request{Fn: 6, At: 0, Vals: []uint16{0}}, "\x06\x00\x00\x00\x00"},
	{api.Request{Fn: 8, Sub: 4660, Vals: []uint16{0x5678}}, "\x08\x12\x34\x56\x78"},
	{api.Request{Fn: 15, At: 7, Bits: nil}, "\x0f\x00\x07\x00\x00\x00"},
	{api.Request{Fn: 15, At: 7, Count: 1, Bits: []bool{true}}, "\x0f\x00\x07\x00\x01\x01\x01"},
	{api.Request{Fn: 15, At: 7, Count: 8, Bits: []bool{true, false, false, false, false, false, true, true}}, "\x0f\x00\x07\x00\x08\x01\xc1"},
	{api.Request{Fn: 15, At: 7, Count: 9, Bits: []bool{false, true, false, false, false, false, false, false, true}}, "\x0f\x00\x07\x00\x09\x02\x02\x01"},
	{api.Request{Fn: 16, At: 770}, "\x10\x03\x02\x00\x00\x00"},
	{api.Request{Fn: 16, At: 770, Count: 1, Vals: []uint16{0x0102}}, "\x10\x03\x02\x00\x01\x02\x01\x02"},
	{api.Request{Fn: 16, At: 770, Count: 3, Vals: []uint16{1, 2, 0xffff}}, "\x10\x03\x02\x00\x03\x06\x00\x01\x00\x02\xff\xff"},
	{api.Request{Fn: 17}, "\x11"},
	{api.Request{Fn: 22, At: 258, And: 0x0304, Or: 0x0506}, "\x16\x01\x02\x03\x04\x05\x06"},
	{api.Request{Fn: 22}, "\x16\x00\x00\x00\x00\x00\x00"},
	{api.Request{Fn: 23, At: 258, Count: 772, WAt: 1286, Vals: []uint16{0x0708}}, "\x17\x01\x02\x03\x04\x05\x06\x00\x01\x02\x07\x08"},
	{api.Request{Fn: 23, At: 65535, Count: 65535, WAt: 65535}, "\x17\xff\xff\xff\xff\xff\xff\x00\x00\x00"},
}

// rights answers Right requests: those above, and more at the edges and in between.
func rights() []api.Request {
	var out []api.Request
	for _, c := range written {
		out = append(out, c.r)
	}
	for _, n := range []int{0, 1, 2, 7, 8, 9, 15, 16, 17, 255, 256, 1967, 1968, 1969, 2032, 2033, 2039, 2040} {
		out = append(out, api.Request{Fn: 15, At: n, Count: n, Bits: bits(n)})
	}
	for _, n := range []int{0, 1, 2, 3, 63, 64, 121, 122, 123, 124, 126, 127} {
		out = append(out, api.Request{Fn: 16, At: n, Count: n, Vals: vals(n)})
		out = append(out, api.Request{Fn: 23, At: n, Count: 126 - n/2, WAt: 7 * n, Vals: vals(n)})
	}
	for n := 0; n < 65536; n += 251 {
		v := []uint16{uint16(n)}
		for fn := 1; fn <= 4; fn++ {
			out = append(out, api.Request{Fn: fn, At: n, Count: 65535 - n})
		}
		out = append(out, api.Request{Fn: 5, At: n, Bits: []bool{n%2 == 0}}, api.Request{Fn: 6, At: 65535 - n, Vals: v},
			api.Request{Fn: 8, Sub: n, Vals: v}, api.Request{Fn: 22, At: n, And: uint16(3 * n), Or: uint16(5 * n)},
			api.Request{Fn: 23, At: n, Count: 65535 - n, WAt: n / 2, Vals: v})
	}
	return out
}

func TestBytes(t *testing.T) {
	for _, c := range written {
		if b, why := pdu.Bytes(c.r); string(b) != c.want || why != api.OK {
			t.Errorf("P3.1: Bytes(%+v) = %x, %d, want %x", c.r, b, int(why), c.want)
		}
		if r, why := pdu.Read([]byte(c.want)); !pdu.Same(r, c.r) || why != api.OK {
			t.Errorf("P3.1: Read(%x) = %+v, %d, want %+v", c.want, r, int(why), c.r)
		}
	}
}

func TestReadOfBytes(t *testing.T) {
	for _, r := range rights() {
		if why := pdu.Right(r); why != api.OK {
			t.Fatalf("P3.1: Right(%+v) = %d", r, int(why))
		}
		b, why := pdu.Bytes(r)
		if why != api.OK || len(b) == 0 || int(b[0]) != r.Fn {
			t.Fatalf("P3.1: Bytes(%+v) = %x, %d", r, b, int(why))
		}
		if !formed(b) {
			t.Fatalf("P3.1: Bytes(%+v) = %x, which is no request", r, b)
		}
		if got, why := pdu.Read(b); why != api.OK || !pdu.Same(got, r) {
			t.Fatalf("P3.3: Read(Bytes(%+v)) = %+v, %d", r, got, int(why))
		}
	}
}

// field is one of Request's: whether a function has it, and how it is made other than zero.
type field struct {
	name string
	of   []int
	set  func(r *api.Request)
}

var fields = []field{
	{"At", []int{1, 2, 3, 4, 5, 6, 15, 16, 22, 23}, func(r *api.Request) { r.At = 1 }},
	{"Count", []int{1, 2, 3, 4, 15, 16, 23}, func(r *api.Request) { r.Count = 1 }},
	{"WAt", []int{23}, func(r *api.Request) { r.WAt = 1 }},
	{"Sub", []int{8}, func(r *api.Request) { r.Sub = 1 }},
	{"Bits", []int{5, 15}, func(r *api.Request) { r.Bits = []bool{false} }},
	{"Vals", []int{6, 8, 16, 23}, func(r *api.Request) { r.Vals = []uint16{0} }},
	{"And", []int{22}, func(r *api.Request) { r.And = 1 }},
	{"Or", []int{22}, func(r *api.Request) { r.Or = 1 }},
}

// full answers a Right request of fn in which every field that it has is other than zero.
func full(fn int) api.Request {
	r := api.Request{Fn: fn}
	for _, f := range fields {
		if slices.Contains(f.of, fn) {
			f.set(&r)
		}
	}
	return r
}

func TestRightByFields(t *testing.T) {
	for _, fn := range functions {
		if why := pdu.Right(full(fn)); why != api.OK {
			t.Errorf("P3.1: Right(%+v) = %d", full(fn), int(why))
		}
		for _, f := range fields {
			if slices.Contains(f.of, fn) {
				continue
			}
			r := full(fn)
			f.set(&r)
			if why := pdu.Right(r); why != api.ErrForm {
				t.Errorf("P3.1: function %d has no %s: Right = %d", fn, f.name, int(why))
			}
			refused(t, r, api.ErrForm)
		}
		r := full(fn)
		r.Bits, r.Vals = append([]bool{}, r.Bits...), append([]uint16{}, r.Vals...)
		if why := pdu.Right(r); why != api.OK {
			t.Errorf("R4: function %d with empty lists: Right = %d", fn, int(why))
		}
	}
}

// refused holds that Bytes and Counts refuse r as Right does.
func refused(t *testing.T, r api.Request, want api.Errno) {
	t.Helper()
	if why := pdu.Right(r); why != want {
		t.Errorf("P3.1: Right(%+v) = %d, want %d", r, int(why), int(want))
	}
	if b, why := pdu.Bytes(r); len(b) != 0 || why != want {
		t.Errorf("P3.1: Bytes(%+v) = %x, %d, want nothing, %d", r, b, int(why), int(want))
	}
	if pdu.Counts(r) {
		t.Errorf("P3.2: Counts(%+v) of one that is not Right", r)
	}
}

func TestRightByFunctions(t *testing.T) {
	for fn := -300; fn <= 600; fn++ {
		want := api.ErrFn
		if slices.Contains(functions, fn) {
			want = api.OK
		}
		if why := pdu.Right(full(fn)); why != want {
			t.Errorf("P3.1: Right of function %d = %d, want %d", fn, int(why), int(want))
		}
	}
	for _, fn := range []int{math.MinInt, math.MinInt + 3, math.MaxInt, 1<<32 + 3, 65536 + 3, 0x83, 7, 0, -3} {
		refused(t, api.Request{Fn: fn}, api.ErrFn)
		// The function is asked first (R8).
		refused(t, api.Request{Fn: fn, At: -1, Count: math.MaxInt, WAt: 1, Sub: 1, Bits: bits(3), Vals: vals(200), And: 1, Or: 1}, api.ErrFn)
	}
}

func TestRightByNumbers(t *testing.T) {
	numbers := []struct {
		of  []int
		set func(r *api.Request, n int)
	}{
		{[]int{1, 2, 3, 4, 5, 6, 15, 16, 22, 23}, func(r *api.Request, n int) { r.At = n }},
		{[]int{1, 2, 3, 4, 23}, func(r *api.Request, n int) { r.Count = n }},
		{[]int{23}, func(r *api.Request, n int) { r.WAt = n }},
		{[]int{8}, func(r *api.Request, n int) { r.Sub = n }},
	}
	for i, f := range numbers {
		for _, fn := range f.of {
			for _, n := range []int{0, 1, 255, 256, 32768, 65534, 65535} {
				r := full(fn)
				f.set(&r, n)
				if why := pdu.Right(r); why != api.OK {
					t.Errorf("P3.1: number %d of function %d is %d: Right = %d", i, fn, n, int(why))
				}
			}
			for _, n := range []int{-1, 65536, 65537, 131072, 1 << 32, math.MaxInt, math.MinInt, -65536} {
				r := full(fn)
				f.set(&r, n)
				refused(t, r, api.ErrForm)
			}
		}
	}
}

func TestRightByLists(t *testing.T) {
	for _, n := range []int{0, 2, 3, 16} {
		refused(t, api.Request{Fn: 5, Bits: bits(n)}, api.ErrForm)
		refused(t, api.Request{Fn: 6, Vals: vals(n)}, api.ErrForm)
		refused(t, api.Request{Fn: 8, Vals: vals(n)}, api.ErrForm)
	}
	for _, n := range []int{0, 1, 8, 100, 2032, 2040} {
		for _, more := range []int{1, 7, 8} {
			refused(t, api.Request{Fn: 15, Count: n, Bits: bits(n + more)}, api.ErrForm)
			refused(t, api.Request{Fn: 15, Count: n + more, Bits: bits(n)}, api.ErrForm)
		}
	}
	for _, n := range []int{0, 1, 8, 100, 126, 127} {
		for _, more := range []int{1, 128, 256} {
			refused(t, api.Request{Fn: 16, Count: n, Vals: vals(n + more)}, api.ErrForm)
			refused(t, api.Request{Fn: 16, Count: n + more, Vals: vals(n)}, api.ErrForm)
		}
	}
	for _, n := range []int{2041, 2048, 4096, 65535, 65536} {
		refused(t, api.Request{Fn: 15, Count: n, Bits: bits(n)}, api.ErrForm)
	}
	for _, n := range []int{128, 129, 255, 256, 65535, 65536} {
		refused(t, api.Request{Fn: 16, Count: n, Vals: vals(n)}, api.ErrForm)
		refused(t, api.Request{Fn: 23, Count: 1, Vals: vals(n)}, api.ErrForm)
	}
	// Of 23 Count is what is read: it need not be as many as Vals.
	if why := pdu.Right(api.Request{Fn: 23, Count: 65535, Vals: vals(127)}); why != api.OK {
		t.Errorf("P3.1: Right of 23 = %d", int(why))
	}
}

// formed tells in another way than the package's whether b is the bytes of a Right request.
func formed(b []byte) bool {
	if len(b) == 0 {
		return false
	}
	switch b[0] {
	case 1, 2, 3, 4, 6, 8:
		return len(b) == 5
	case 5:
		return len(b) == 5 && (b[3] == 255 || b[3] == 0) && b[4] == 0
	case 17:
		return len(b) == 1
	case 22:
		return len(b) == 7
	case 16:
		return len(b) >= 6 && b[3] == 0 && int(b[5]) == 2*int(b[4]) && len(b) == 6+int(b[5])
	case 23:
		return len(b) >= 10 && b[7] == 0 && int(b[9]) == 2*int(b[8]) && len(b) == 10+int(b[9])
	case 15:
		if len(b) < 6 || len(b) != 6+int(b[5]) {
			return false
		}
		n := int(b[3])*256 + int(b[4])
		return (n+7)/8 == int(b[5]) && (n%8 == 0 || int(b[len(b)-1]) < 1<<(n%8))
	}
	return false
}

// holds asks Read of b against the promise.
func holds(t *testing.T, b []byte) {
	t.Helper()
	want := api.OK
	switch {
	case len(b) == 0:
		want = api.ErrShort
	case !slices.Contains(functions, int(b[0])):
		want = api.ErrFn
	case !formed(b):
		want = api.ErrForm
	}
	r, why := pdu.Read(b)
	if why != want {
		t.Fatalf("P3.1: Read(%x) = %d, want %d", b, int(why), int(want))
	}
	if why != api.OK {
		if !pdu.Same(r, api.Request{}) {
			t.Fatalf("R3: Read(%x) = %+v beside %d", b, r, int(why))
		}
		return
	}
	if again, no := pdu.Bytes(r); no != api.OK || !slices.Equal(again, b) {
		t.Fatalf("P3.1: Bytes(Read(%x)) = %x, %d", b, again, int(no))
	}
}

func TestReadOfWrong(t *testing.T) {
	holds(t, nil)
	holds(t, []byte{})
	for fn := range 256 {
		for n := range 300 {
			b := make([]byte, n+1)
			b[0] = byte(fn)
			holds(t, b)
			scribble(b[1:], 255)
			holds(t, b)
		}
	}
	for _, c := range written {
		b := []byte(c.want)
		for n := range b {
			holds(t, b[:n])
			for x := range 256 {
				other := slices.Clone(b)
				other[n] = byte(x)
				holds(t, other)
			}
		}
		for x := range 256 {
			holds(t, append(slices.Clone(b), byte(x)))
			holds(t, append(slices.Clone(b), 0, byte(x)))
		}
	}
}

func TestReadOfCounts(t *testing.T) {
	for _, fn := range []byte{15, 16, 23} {
		front := []byte{fn, 0, 1}
		if fn == 23 {
			front = []byte{fn, 0, 1, 0, 2, 0, 3}
		}
		for size := range 258 {
			for _, n := range []int{0, 1, size / 2, size/2 + 1, 8*size - 8, 8*size - 7, 8*size - 1, 8 * size, 8*size + 1, 256 + size/2, 65535} {
				for _, told := range []int{size - 1, size, size + 1} {
					b := append(slices.Clone(front), byte(n>>8), byte(n), byte(told))
					holds(t, append(b, make([]byte, size)...))
				}
			}
		}
	}
	r := rand.New(rand.NewSource(3))
	for range 50000 {
		b := make([]byte, r.Intn(16))
		r.Read(b)
		if len(b) > 5 {
			b[0], b[3], b[4], b[5] = byte(r.Intn(25)), 0, byte(r.Intn(20)), byte(len(b)-6)
		}
		holds(t, b)
	}
	holds(t, append([]byte{16, 0, 0, 0, 1, 2}, make([]byte, 1<<20)...))
	holds(t, make([]byte, 1<<20))
}

func TestExamples(t *testing.T) {
	if r, why := pdu.Read(nil); why != api.ErrShort || !pdu.Same(r, api.Request{}) {
		t.Errorf("P3.1: Read of nothing: %+v, %d", r, int(why))
	}
	if _, why := pdu.Read([]byte{7}); why != api.ErrFn {
		t.Errorf("P3.1: Read of 7: %d", int(why))
	}
	if b, why := pdu.Bytes(api.Request{Fn: api.Identify}); why != api.OK || !slices.Equal(b, []byte{17}) {
		t.Errorf("P3.1: Bytes of Identify: %x, %d", b, int(why))
	}
}

func TestCounts(t *testing.T) {
	most := map[int]int{1: 2000, 2: 2000, 3: 125, 4: 125}
	for fn, m := range most {
		for n := range 65536 {
			if got := pdu.Counts(api.Request{Fn: fn, Count: n}); got != (n >= 1 && n <= m) {
				t.Errorf("P3.2: Counts of function %d, Count %d: %v", fn, n, got)
			}
		}
	}
	for n := range 2100 {
		if got := pdu.Counts(api.Request{Fn: 15, Count: n, Bits: bits(n)}); got != (n >= 1 && n <= 1968) {
			t.Errorf("P3.2: Counts of function 15, Count %d: %v", n, got)
		}
	}
	for n := range 140 {
		if got := pdu.Counts(api.Request{Fn: 16, Count: n, Vals: vals(n)}); got != (n >= 1 && n <= 123) {
			t.Errorf("P3.2: Counts of function 16, Count %d: %v", n, got)
		}
		for m := range 140 {
			if got := pdu.Counts(api.Request{Fn: 23, Count: m, Vals: vals(n)}); got != (n >= 1 && n <= 121 && m >= 1 && m <= 125) {
				t.Errorf("P3.2: Counts of function 23, Count %d, %d Vals: %v", m, n, got)
			}
		}
	}
	for _, fn := range []int{5, 6, 8, 17, 22} {
		if !pdu.Counts(full(fn)) {
			t.Errorf("P3.2: Counts of function %d", fn)
		}
	}
	for _, r := range []api.Request{{Fn: 22}, {Fn: 5, At: 65535, Bits: bits(1)}, {Fn: 6, At: 65535, Vals: vals(1)}, {Fn: 8, Sub: 65535, Vals: vals(1)}} {
		if !pdu.Counts(r) {
			t.Errorf("P3.2: Counts(%+v)", r)
		}
	}
}

func TestSame(t *testing.T) {
	a := api.Request{Fn: -9, At: math.MaxInt, Count: -2, WAt: 70000, Sub: math.MinInt, Bits: bits(3), Vals: vals(3), And: 8, Or: 9}
	b := a
	b.Bits, b.Vals = slices.Clone(a.Bits), slices.Clone(a.Vals)
	if !pdu.Same(a, b) || !pdu.Same(a, a) || !pdu.Same(api.Request{}, api.Request{}) {
		t.Error("P3.2: Same of the same")
	}
	turns := []func(r *api.Request){
		func(r *api.Request) { r.Fn = 0 },
		func(r *api.Request) { r.At-- },
		func(r *api.Request) { r.Count = 2 },
		func(r *api.Request) { r.WAt = 70000 - 65536 },
		func(r *api.Request) { r.Sub = 0 },
		func(r *api.Request) { r.Bits = nil },
		func(r *api.Request) { r.Bits = bits(2) },
		func(r *api.Request) { r.Bits = append(bits(3), false) },
		func(r *api.Request) { r.Bits = []bool{true, false, false} },
		func(r *api.Request) { r.Vals = nil },
		func(r *api.Request) { r.Vals = vals(2) },
		func(r *api.Request) { r.Vals = append(vals(3), 0) },
		func(r *api.Request) { r.Vals = append(vals(2), 1) },
		func(r *api.Request) { r.And = 0 },
		func(r *api.Request) { r.Or = 8 },
	}
	for i, turn := range turns {
		c := b
		turn(&c)
		if pdu.Same(a, c) || pdu.Same(c, a) {
			t.Errorf("P3.2: Same of others, turn %d", i)
		}
	}
	if !pdu.Same(api.Request{Bits: []bool{}, Vals: []uint16{}}, api.Request{}) {
		t.Error("R4: Same of empty lists and none")
	}
}

func TestNothingChanged(t *testing.T) {
	for _, r := range append(rights(), api.Request{Fn: 7, Bits: bits(5), Vals: vals(5)}, api.Request{Fn: 15, Count: 9, Bits: bits(5)}) {
		var first []byte
		for _, mark := range []uint16{0, 0xffff} {
			in := r
			in.Bits, in.Vals = roomy(r.Bits, mark != 0), roomy(r.Vals, mark)
			keepBits, keepVals := slices.Clone(whole(in.Bits)), slices.Clone(whole(in.Vals))
			b, why := pdu.Bytes(in)
			if pdu.Right(in) != why || !pdu.Same(in, r) || pdu.Counts(in) != pdu.Counts(r) {
				t.Fatalf("R5: %+v with room behind it", r)
			}
			if mark != 0 && !slices.Equal(b, first) {
				t.Fatalf("R5: Bytes(%+v) hangs on the room behind", r)
			}
			first = slices.Clone(b)
			scribble(b, 0x5a)
			if !slices.Equal(whole(in.Bits), keepBits) || !slices.Equal(whole(in.Vals), keepVals) {
				t.Fatalf("R2: %+v was changed", r)
			}
			if again, _ := pdu.Bytes(in); !slices.Equal(again, first) {
				t.Fatalf("R2: Bytes(%+v) is not new memory", r)
			}
		}
	}
}

func TestReadIsNewMemory(t *testing.T) {
	for _, want := range rights() {
		b, _ := pdu.Bytes(want)
		for _, mark := range []byte{0, 0xff} {
			in := roomy(b, mark)
			keep := slices.Clone(whole(in))
			r, why := pdu.Read(in)
			if why != api.OK || !pdu.Same(r, want) {
				t.Fatalf("R5: Read(%x) with room behind it: %+v, %d", b, r, int(why))
			}
			again, _ := pdu.Read(in)
			scribble(r.Bits, true)
			scribble(r.Vals, 0x5a5a)
			if !slices.Equal(whole(in), keep) {
				t.Fatalf("R2: Read changed %x, or its answer shares it", b)
			}
			scribble(in, 0x77)
			if !pdu.Same(again, want) {
				t.Fatalf("R2: Read(%x) is not new memory", b)
			}
			// What is cut off stands behind the length, and is not read.
			if len(b) > 1 {
				holds(t, roomy(b, mark)[:len(b)-1])
			}
		}
	}
}
