package device_test

import (
	"math"
	"math/rand"
	"slices"
	"testing"

	"burgage/api"
	"burgage/device"
	"burgage/pdu"
	"burgage/reply"
	"burgage/store"
)

// functions are all that there are.
var functions = []int{1, 2, 3, 4, 5, 6, 8, 15, 16, 17, 22, 23}

// wild are numbers at which something may turn or wrap round.
var wild = []int{
	math.MinInt, math.MinInt + 3, -1 << 32, -65536, -2, -1, 0, 1, 2,
	255, 256, 65535, 65536, 65539, 1 << 31, 1 << 32, 1<<32 + 3, math.MaxInt - 1, math.MaxInt,
}

// roomy answers a list with the values of l and, behind its length, room filled with mark.
func roomy[T any](l []T, mark T) []T {
	all := slices.Concat(l, slices.Repeat([]T{mark}, 16))
	return all[:len(l):len(all)]
}

// whole answers l with the room behind it.
func whole[T any](l []T) []T { return l[:cap(l)] }

// scribble overwrites l and the room behind it.
func scribble[T any](l []T, mark T) {
	for i := range whole(l) {
		whole(l)[i] = mark
	}
}

// bits and vals answer lists of n that are not all the same.
func bits(n int) []bool {
	out := make([]bool, n)
	for i := range out {
		out[i] = i%3 != 1
	}
	return out
}

func vals(n int) []uint16 {
	out := make([]uint16, n)
	for i := range out {
		out[i] = uint16(257*i + 3)
	}
	return out
}

// model is a device told another way: plain rows, and one long story of what each function does.
type model struct {
	coils, discretes []bool
	inputs, holdings []uint16
	messages         int
	exceptions       int
	unit             int
}

// filled answers a device whose cells are not all the same, and the model of it.
func filled(cells int) (*device.Device, *model) {
	d := device.New(cells)
	m := &model{
		coils: bits(cells), discretes: make([]bool, cells),
		inputs: vals(cells), holdings: make([]uint16, cells),
	}
	for i := range cells {
		m.discretes[i] = i%4 == 1
		m.holdings[i] = uint16(40000 - 3*i)
	}
	if !m.lay(d.Store()) {
		panic("the store that is to be filled has not as many cells")
	}
	return d, m
}

// lay sets the cells of s to those of m.
func (m *model) lay(s *store.Store) bool {
	return s.SetBits(api.Coils, 0, m.coils) && s.SetBits(api.Discretes, 0, m.discretes) &&
		s.SetVals(api.Inputs, 0, m.inputs) && s.SetVals(api.Holdings, 0, m.holdings)
}

// store answers a store of its own with the cells of m.
func (m *model) store() *store.Store {
	s := store.New(len(m.coils))
	m.lay(s)
	return s
}

// there tells whether m has n cells from at on; of numbers that can't wrap round.
func (m *model) there(at, n int) bool { return at+n <= len(m.coils) }

func (m *model) refuse(fn, code int) api.Reply {
	m.exceptions++
	return api.Reply{Fn: fn & 127, Code: code}
}

// asked tells the code that forbids q; 0, if none does.
func (m *model) asked(q api.Request) int {
	switch {
	case !slices.Contains(functions, q.Fn):
		return 1
	case pdu.Right(q) != api.OK || !pdu.Counts(q):
		return 3
	case q.Fn == 8:
		counts := q.Sub == 11 || q.Sub == 13 || q.Sub == 14
		if counts && q.Vals[0] == 0 || q.Sub == 0 || q.Sub == 10 {
			return 0
		}
		return 3
	case q.Fn == 17:
		return 0
	case q.Fn == 5 || q.Fn == 6 || q.Fn == 22:
		q.Count = 1
	}
	if !m.there(q.At, q.Count) || q.Fn == 23 && !m.there(q.WAt, len(q.Vals)) {
		return 2
	}
	return 0
}

// do does q, and answers what must be answered.
func (m *model) do(q api.Request) api.Reply {
	m.messages++
	if code := m.asked(q); code != 0 {
		return m.refuse(q.Fn, code)
	}
	r := api.Reply{Fn: q.Fn}
	switch q.Fn {
	case 1:
		r.Bits = m.coils[q.At : q.At+q.Count]
	case 2:
		r.Bits = m.discretes[q.At : q.At+q.Count]
	case 3:
		r.Vals = m.holdings[q.At : q.At+q.Count]
	case 4:
		r.Vals = m.inputs[q.At : q.At+q.Count]
	case 5:
		m.coils[q.At], r.At, r.Bits = q.Bits[0], q.At, q.Bits
	case 6:
		m.holdings[q.At], r.At, r.Vals = q.Vals[0], q.At, q.Vals
	case 8:
		r.Sub, r.Vals = q.Sub, m.tell(q)
	case 15:
		copy(m.coils[q.At:], q.Bits)
		r.At, r.Count = q.At, q.Count
	case 16:
		copy(m.holdings[q.At:], q.Vals)
		r.At, r.Count = q.At, q.Count
	case 17:
		r.Data = []byte{byte(m.unit), 255}
	case 22:
		m.holdings[q.At] = masked(m.holdings[q.At], q.And, q.Or)
		r.At, r.And, r.Or = q.At, q.And, q.Or
	case 23:
		copy(m.holdings[q.WAt:], q.Vals)
		r.Vals = m.holdings[q.At : q.At+q.Count]
	}
	// The model's rows go on changing, and q is the caller's.
	r.Bits, r.Vals = slices.Clone(r.Bits), slices.Clone(r.Vals)
	return r
}

// tell answers the one number that function 8 answers.
func (m *model) tell(q api.Request) []uint16 {
	switch q.Sub {
	case 10:
		m.messages, m.exceptions = 0, 0
	case 11, 14:
		return []uint16{uint16(m.messages % 65536)}
	case 13:
		return []uint16{uint16(m.exceptions % 65536)}
	}
	return q.Vals
}

// masked answers a number bit by bit.
func masked(it, and, or uint16) uint16 {
	var out uint16
	for bit := range 16 {
		from := or
		if and>>bit&1 == 1 {
			from = it
		}
		out |= from >> bit & 1 << bit
	}
	return out
}

// mustBe ends the test if d is not as m has it.
func mustBe(t *testing.T, when string, d *device.Device, m *model) {
	t.Helper()
	if n, x := d.Counts(); n != m.messages || x != m.exceptions {
		t.Fatalf("P9.1: %s: Counts() = %d, %d, want %d, %d", when, n, x, m.messages, m.exceptions)
	}
	if !d.Store().Same(m.store()) {
		t.Fatalf("P9.1: %s: the cells are not as they must be", when)
	}
}

// mustDo ends the test if d does not do q as m does.
func mustDo(t *testing.T, d *device.Device, m *model, q api.Request) {
	t.Helper()
	short := q
	short.Bits, short.Vals = q.Bits[:min(3, len(q.Bits))], q.Vals[:min(3, len(q.Vals))]
	want := m.do(q)
	if got := d.Do(q); !reply.Same(got, want) {
		t.Fatalf("P9.1: Do of %+v (of %d bits, %d numbers): code %d, want %d; %d bits, %d numbers of %+v, want %+v", short, len(q.Bits), len(q.Vals), got.Code, want.Code, len(got.Bits), len(got.Vals), got, want)
	}
	mustBe(t, "Do", d, m)
}

func TestNew(t *testing.T) {
	for _, n := range append(wild, 3, 512, 65534, 65537) {
		d := device.New(n)
		if (d == nil) != (store.New(n) == nil) || (d != nil) != (n >= 1 && n <= 65536) {
			t.Errorf("P9.1: New(%d): nil is %v", n, d == nil)
		}
		if d == nil {
			continue
		}
		if d.Store() == nil || !d.Store().Same(store.New(n)) {
			t.Errorf("P9.1: New(%d): its cells are not those of a new store", n)
		}
		if x, y := d.Counts(); x != 0 || y != 0 {
			t.Errorf("P9.1: New(%d): Counts() = %d, %d", n, x, y)
		}
	}
}

// TestNewIsItsOwn: what is asked of one device is not seen in another one.
func TestNewIsItsOwn(t *testing.T) {
	one, two := device.New(3), device.New(3)
	one.Unit(9)
	one.Do(api.Request{Fn: 6, At: 1, Vals: []uint16{5}})
	one.Do(api.Request{})
	mustBe(t, "another device was asked", two, &model{coils: make([]bool, 3), discretes: make([]bool, 3), inputs: make([]uint16, 3), holdings: make([]uint16, 3)})
	if r := two.Do(api.Request{Fn: 17}); !slices.Equal(r.Data, []byte{0, 255}) {
		t.Errorf("P9.1: another device's Unit was set: Data = %v", r.Data)
	}
}

// TestStore: it is the one that requests are done on, both ways.
func TestStore(t *testing.T) {
	d := device.New(4)
	s := d.Store()
	if s != d.Store() {
		t.Error("P9.1: Store answers another one each time")
	}
	s.SetVals(api.Holdings, 2, []uint16{7})
	if r := d.Do(api.Request{Fn: 3, At: 1, Count: 2}); !slices.Equal(r.Vals, []uint16{0, 7}) {
		t.Errorf("P9.1: a cell set in Store: %v", r.Vals)
	}
	d.Do(api.Request{Fn: 5, At: 3, Bits: []bool{true}})
	if l, _ := s.Bits(api.Coils, 0, 4); !slices.Equal(l, []bool{false, false, false, true}) {
		t.Errorf("P9.1: a cell set by Do is not in Store: %v", l)
	}
	if n, x := d.Counts(); n != 2 || x != 0 {
		t.Errorf("P9.1: what Store is asked is counted: %d, %d", n, x)
	}
}

// TestSpaces: each function reads or writes its own space alone; told by hand.
func TestSpaces(t *testing.T) {
	d := device.New(4)
	d.Store().SetBits(api.Coils, 0, []bool{false, true, false, false})
	d.Store().SetBits(api.Discretes, 0, []bool{true, false, true, false})
	d.Store().SetVals(api.Inputs, 0, []uint16{20, 21, 22, 23})
	d.Store().SetVals(api.Holdings, 0, []uint16{30, 31, 32, 33})
	for i, c := range []struct {
		q    api.Request
		want api.Reply
	}{
		{api.Request{Fn: 1, At: 1, Count: 2}, api.Reply{Fn: 1, Bits: []bool{true, false}}},
		{api.Request{Fn: 2, At: 1, Count: 2}, api.Reply{Fn: 2, Bits: []bool{false, true}}},
		{api.Request{Fn: 3, At: 1, Count: 2}, api.Reply{Fn: 3, Vals: []uint16{31, 32}}},
		{api.Request{Fn: 4, At: 1, Count: 2}, api.Reply{Fn: 4, Vals: []uint16{21, 22}}},
		{api.Request{Fn: 5, At: 2, Bits: []bool{true}}, api.Reply{Fn: 5, At: 2, Bits: []bool{true}}},
		{api.Request{Fn: 1, At: 0, Count: 4}, api.Reply{Fn: 1, Bits: []bool{false, true, true, false}}},
		{api.Request{Fn: 5, At: 1, Bits: []bool{false}}, api.Reply{Fn: 5, At: 1, Bits: []bool{false}}},
		{api.Request{Fn: 1, At: 0, Count: 4}, api.Reply{Fn: 1, Bits: []bool{false, false, true, false}}},
		{api.Request{Fn: 6, At: 3, Vals: []uint16{0xabcd}}, api.Reply{Fn: 6, At: 3, Vals: []uint16{0xabcd}}},
		{api.Request{Fn: 3, At: 0, Count: 4}, api.Reply{Fn: 3, Vals: []uint16{30, 31, 32, 0xabcd}}},
		{api.Request{Fn: 15, At: 0, Count: 2, Bits: []bool{true, true}}, api.Reply{Fn: 15, Count: 2}},
		{api.Request{Fn: 1, At: 0, Count: 4}, api.Reply{Fn: 1, Bits: []bool{true, true, true, false}}},
		{api.Request{Fn: 16, At: 1, Count: 2, Vals: []uint16{1, 65535}}, api.Reply{Fn: 16, At: 1, Count: 2}},
		{api.Request{Fn: 3, At: 0, Count: 4}, api.Reply{Fn: 3, Vals: []uint16{30, 1, 65535, 0xabcd}}},
		{api.Request{Fn: 22, At: 3, And: 0x0ff0, Or: 0x1111}, api.Reply{Fn: 22, At: 3, And: 0x0ff0, Or: 0x1111}},
		{api.Request{Fn: 3, At: 3, Count: 1}, api.Reply{Fn: 3, Vals: []uint16{0x1bc1}}},
		{api.Request{Fn: 23, At: 0, Count: 3, WAt: 1, Vals: []uint16{8}}, api.Reply{Fn: 23, Vals: []uint16{30, 8, 65535}}},
		{api.Request{Fn: 23, At: 3, Count: 1, WAt: 0, Vals: []uint16{4, 5}}, api.Reply{Fn: 23, Vals: []uint16{0x1bc1}}},
		{api.Request{Fn: 3, At: 0, Count: 4}, api.Reply{Fn: 3, Vals: []uint16{4, 5, 65535, 0x1bc1}}},
		{api.Request{Fn: 2, At: 0, Count: 4}, api.Reply{Fn: 2, Bits: []bool{true, false, true, false}}},
		{api.Request{Fn: 4, At: 0, Count: 4}, api.Reply{Fn: 4, Vals: []uint16{20, 21, 22, 23}}},
	} {
		got := d.Do(c.q)
		if n, x := d.Counts(); !reply.Same(got, c.want) || n != i+1 || x != 0 {
			t.Errorf("P9.1: Do of %+v = %+v, want %+v; Counts() = %d, %d", c.q, got, c.want, n, x)
		}
	}
}

// asks answers requests of n cells from at on, of each function that asks cells; both ways of function 23.
func asks(at, n int) []api.Request {
	return []api.Request{
		{Fn: 1, At: at, Count: n}, {Fn: 2, At: at, Count: n}, {Fn: 3, At: at, Count: n}, {Fn: 4, At: at, Count: n},
		{Fn: 5, At: at, Bits: []bool{true}}, {Fn: 6, At: at, Vals: []uint16{9}},
		{Fn: 15, At: at, Count: n, Bits: bits(n)}, {Fn: 16, At: at, Count: n, Vals: vals(n)},
		{Fn: 22, At: at, And: 3, Or: 5},
		{Fn: 23, At: at, Count: n, WAt: 0, Vals: vals(1)}, {Fn: 23, At: 0, Count: 1, WAt: at, Vals: vals(n)},
		{Fn: 23, At: at, Count: n, WAt: at, Vals: vals(n)},
	}
}

// TestAddresses: every place and number of cells at the ends of devices; what is not there changes no cell.
func TestAddresses(t *testing.T) {
	for _, cells := range []int{1, 2, 5, 130} {
		d, m := filled(cells)
		for _, at := range []int{0, 1, cells - 2, cells - 1, cells, cells + 1, 255, 256, 65534, 65535} {
			for _, n := range []int{1, 2, 3, cells - 1, cells, cells + 1, 121} {
				if at < 0 || n < 1 || n > 121 {
					continue
				}
				for _, q := range asks(at, n) {
					mustDo(t, d, m, q)
				}
			}
		}
	}
}

// TestWide: the greatest device has all cells that can be asked, and no more.
func TestWide(t *testing.T) {
	d := device.New(65536)
	for _, q := range asks(65535, 1) {
		if r := d.Do(q); r.Code != 0 {
			t.Errorf("P9.1: Do of %+v: code %d", q, r.Code)
		}
	}
	for _, q := range asks(65535, 2) {
		// These write or read one cell, whatever n is.
		one := q.Fn == 5 || q.Fn == 6 || q.Fn == 22
		if r := d.Do(q); (r.Code == api.BadAddress) == one {
			t.Errorf("P9.1: Do of %+v: code %d", q, r.Code)
		}
	}
	if n, x := d.Counts(); n != 24 || x != 9 {
		t.Errorf("P9.1: Counts() = %d, %d, want 24, 9", n, x)
	}
	small, m := filled(65535)
	for _, q := range asks(65535, 1) {
		want := m.do(q)
		if got := small.Do(q); !reply.Same(got, want) || want.Code != api.BadAddress && q.Fn != 23 {
			t.Errorf("P9.1: Do of %+v of 65535 cells: %+v", q, got)
		}
	}
	mustBe(t, "cells that are not there were asked", small, m)
}

// TestCountsOfCells: no fewer and no more cells than a function may ask, and that ahead of where they are.
func TestCountsOfCells(t *testing.T) {
	for _, c := range []struct{ fn, most int }{{1, 2000}, {2, 2000}, {3, 125}, {4, 125}, {15, 1968}, {16, 123}, {23, 125}} {
		for _, cells := range []int{1, 4000} {
			for _, n := range []int{0, 1, 2, c.most - 1, c.most, c.most + 1, c.most + 2} {
				q := api.Request{Fn: c.fn, Count: n}
				switch c.fn {
				case 15:
					q.Bits = bits(n)
				case 16:
					q.Vals = vals(n)
				case 23:
					q.Vals = vals(1)
				}
				want := 0
				if n < 1 || n > c.most {
					want = api.BadValue
				} else if n > cells {
					want = api.BadAddress
				}
				d, m := filled(cells)
				if m.do(q).Code != want {
					t.Fatal("the model is wrong")
				}
				if got := d.Do(q).Code; got != want {
					t.Errorf("P9.1: function %d of %d of %d cells: code %d, want %d", c.fn, n, cells, got, want)
				}
				mustBe(t, "cells were counted", d, m)
			}
		}
	}
	for _, n := range []int{0, 1, 120, 121, 122, 127, 128} {
		for _, at := range []int{0, 880, 65535} {
			d, m := filled(1000)
			mustDo(t, d, m, api.Request{Fn: 23, Count: 1, WAt: at, Vals: vals(n)})
		}
	}
}

// TestFunctions: BadFunction of each number that is no function's, whatever else is asked.
func TestFunctions(t *testing.T) {
	d, m := filled(6)
	all := slices.Clone(wild)
	for fn := -300; fn <= 300; fn++ {
		all = append(all, fn)
	}
	for _, fn := range all {
		if slices.Contains(functions, fn) {
			continue
		}
		for _, q := range []api.Request{
			{Fn: fn}, {Fn: fn, At: 1, Count: 1}, {Fn: fn, At: 6, Count: 1}, {Fn: fn, At: -1, Count: 5000, WAt: math.MinInt, Sub: 70000},
			{Fn: fn, At: 1, Count: 2, Bits: bits(2)}, {Fn: fn, At: 1, Vals: vals(1)}, {Fn: fn, Bits: bits(3000), Vals: vals(3000), And: 1, Or: 1},
		} {
			r := d.Do(q)
			if m.do(q); !reply.Same(r, api.Reply{Fn: fn & 127, Code: 1}) {
				t.Errorf("P9.1: Do of function %d: %+v", fn, r)
			}
			mustBe(t, "another function was asked", d, m)
		}
	}
}

// TestBadValues: BadValue of requests that are not Right, though no cell that they ask is there.
func TestBadValues(t *testing.T) {
	good := []api.Request{
		{Fn: 1, At: 1, Count: 1}, {Fn: 2, At: 1, Count: 1}, {Fn: 3, At: 1, Count: 1}, {Fn: 4, At: 1, Count: 1},
		{Fn: 5, At: 1, Bits: bits(1)}, {Fn: 6, At: 1, Vals: vals(1)}, {Fn: 8, Vals: vals(1)},
		{Fn: 15, At: 1, Count: 2, Bits: bits(2)}, {Fn: 16, At: 1, Count: 2, Vals: vals(2)}, {Fn: 17},
		{Fn: 22, At: 1, And: 1, Or: 2}, {Fn: 23, At: 1, Count: 1, WAt: 2, Vals: vals(2)},
	}
	for _, cells := range []int{1, 6} {
		d, m := filled(cells)
		for _, q := range good {
			for _, n := range wild {
				for field := range 4 {
					bad := q
					*[]*int{&bad.At, &bad.Count, &bad.WAt, &bad.Sub}[field] = n
					mustDo(t, d, m, bad)
				}
			}
			for n := range 4 {
				bad := q
				bad.Bits = bits(n)
				mustDo(t, d, m, bad)
				bad = q
				bad.Vals = vals(n)
				mustDo(t, d, m, bad)
			}
			for n := range uint16(2) {
				bad := q
				bad.And = n
				mustDo(t, d, m, bad)
				bad = q
				bad.Or = n
				mustDo(t, d, m, bad)
			}
		}
	}
	for _, q := range good {
		q.Sub = -1
		if r := device.New(1).Do(q); !reply.Same(r, api.Reply{Fn: q.Fn, Code: 3}) {
			t.Errorf("P9.1: Do of %+v: %+v, want BadValue", q, r)
		}
	}
}

// TestMask: each of a Holding's bits, for all that it, And and Or may be, and no other Holding.
func TestMask(t *testing.T) {
	r := rand.New(rand.NewSource(22))
	d, m := filled(5)
	numbers := []uint16{0, 1, 0x00ff, 0x5555, 0xaaaa, 0xf0f0, 0x8000, 0xffff}
	for _, it := range append(numbers, uint16(r.Intn(65536))) {
		for _, and := range append(numbers, uint16(r.Intn(65536))) {
			for _, or := range append(numbers, uint16(r.Intn(65536))) {
				at := r.Intn(5)
				mustDo(t, d, m, api.Request{Fn: 6, At: at, Vals: []uint16{it}})
				mustDo(t, d, m, api.Request{Fn: 22, At: at, And: and, Or: or})
			}
		}
	}
	// The example of the protocol's own page: 0x12 masked by 0xf2 and 0x25 is 0x17.
	d.Store().SetVals(api.Holdings, 4, []uint16{0x12})
	d.Do(api.Request{Fn: 22, At: 4, And: 0xf2, Or: 0x25})
	if l, _ := d.Store().Vals(api.Holdings, 4, 1); l[0] != 0x17 {
		t.Errorf("P9.1: 0x12 masked: %#x, want 0x17", l[0])
	}
}

// TestReadWrite: what is written is read in the same request, wherever the two meet; each end that is not there forbids both.
func TestReadWrite(t *testing.T) {
	for at := range 8 {
		for wat := range 8 {
			for n := 1; n <= 7; n++ {
				for w := 1; w <= 7; w++ {
					d, m := filled(6)
					mustDo(t, d, m, api.Request{Fn: 23, At: at, Count: n, WAt: wat, Vals: vals(w)})
				}
			}
		}
	}
}

// TestSubs: all that function 8 may be asked for, with numbers of all kinds.
func TestSubs(t *testing.T) {
	d, m := filled(2)
	for sub := range 65536 {
		want := m.do(api.Request{Fn: 8, Sub: sub, Vals: []uint16{0}})
		got := d.Do(api.Request{Fn: 8, Sub: sub, Vals: []uint16{0}})
		if !reply.Same(got, want) || (got.Code == 0) != slices.Contains([]int{0, 10, 11, 13, 14}, sub) {
			t.Fatalf("P9.1: Sub %d: %+v, want %+v", sub, got, want)
		}
	}
	mustBe(t, "each Sub was asked", d, m)
	for _, sub := range []int{-1, 0, 1, 9, 10, 11, 12, 13, 14, 15, 10, 65535, 65536, 65546, math.MaxInt, math.MinInt} {
		for _, val := range []uint16{0, 1, 255, 256, 0x8000, 65535} {
			mustDo(t, d, m, api.Request{})
			mustDo(t, d, m, api.Request{Fn: 8, Sub: sub, Vals: []uint16{val}})
		}
		mustDo(t, d, m, api.Request{Fn: 8, Sub: sub})
		mustDo(t, d, m, api.Request{Fn: 8, Sub: sub, Vals: vals(2)})
	}
}

// tell answers the number that function 8 tells.
func tell(d *device.Device, sub int) uint16 {
	r := d.Do(api.Request{Fn: 8, Sub: sub, Vals: []uint16{0}})
	if len(r.Vals) != 1 {
		return 0xdead
	}
	return r.Vals[0]
}

// TestGreatCounts: the numbers that are told are cut to 16 bits, those of Counts are not.
func TestGreatCounts(t *testing.T) {
	d := device.New(1)
	for range 70000 {
		d.Do(api.Request{})
	}
	for range 5 {
		d.Do(api.Request{Fn: 17})
	}
	for i, c := range []struct{ sub, want int }{{11, 70006}, {14, 70007}, {13, 70000}} {
		if got := tell(d, c.sub); got != uint16(c.want-65536) {
			t.Errorf("P9.1: Sub %d: %d, want %d", c.sub, got, c.want-65536)
		}
		if n, x := d.Counts(); n != 70006+i || x != 70000 {
			t.Errorf("P9.1: Counts() = %d, %d, want %d, 70000", n, x, 70006+i)
		}
	}
	if r := d.Do(api.Request{Fn: 8, Sub: 10, Vals: []uint16{7}}); !reply.Same(r, api.Reply{Fn: 8, Sub: 10, Vals: []uint16{7}}) {
		t.Errorf("P9.1: Sub 10: %+v", r)
	}
	if n, x := d.Counts(); n != 0 || x != 0 {
		t.Errorf("P9.1: Sub 10: Counts() = %d, %d, want 0, 0", n, x)
	}
	if a, b, c := tell(d, 13), tell(d, 11), tell(d, 14); a != 0 || b != 2 || c != 3 {
		t.Errorf("P9.1: behind Sub 10: %d, %d, %d, want 0, 2, 3", a, b, c)
	}
}

func TestUnit(t *testing.T) {
	d, m := filled(2)
	mustDo(t, d, m, api.Request{Fn: 17})
	for _, n := range append(wild, 17, 127, 128, 257, -128, -129, -255, -256, -257) {
		d.Unit(n)
		m.unit = n & 255
		mustDo(t, d, m, api.Request{Fn: 17})
		mustDo(t, d, m, api.Request{Fn: 17, At: 1})
	}
	// Neither a count nor a number of the unit hangs on the other.
	mustDo(t, d, m, api.Request{Fn: 8, Sub: 10, Vals: []uint16{0}})
	mustDo(t, d, m, api.Request{Fn: 17})
}

// asBytes answers what Pdu must answer to b, as m has it.
func (m *model) asBytes(b []byte) []byte {
	q, why := pdu.Read(b)
	var r api.Reply
	switch why {
	case api.OK:
		r = m.do(q)
	case api.ErrShort:
		return nil
	case api.ErrFn:
		m.messages++
		r = m.refuse(int(b[0]), 1)
	case api.ErrForm:
		m.messages++
		r = m.refuse(int(b[0]), 3)
	}
	if r.Code != 0 {
		return []byte{byte(r.Fn) | 128, byte(r.Code)}
	}
	out, _ := reply.Bytes(r)
	return out
}

// mustPdu ends the test if d does not do b as m does.
func mustPdu(t *testing.T, d *device.Device, m *model, b []byte) {
	t.Helper()
	want := m.asBytes(b)
	if got := d.Pdu(b); !slices.Equal(got, want) {
		t.Fatalf("P9.1: Pdu of %d bytes, %x: %x, want %x", len(b), b[:min(12, len(b))], got[:min(12, len(got))], want[:min(12, len(want))])
	}
	mustBe(t, "Pdu", d, m)
}

// TestPdu: what each Right request of the edges, as bytes, is answered; and those bytes with one too few, one too many, one turned.
func TestPdu(t *testing.T) {
	d, m := filled(130)
	var all []api.Request
	for _, at := range []int{0, 5, 129, 130, 65535} {
		for _, n := range []int{0, 1, 2, 8, 9, 121, 122, 126} {
			all = append(all, asks(at, n)...)
		}
	}
	for _, sub := range []int{0, 1, 10, 11, 12, 13, 14, 256} {
		all = append(all, api.Request{Fn: 8, Sub: sub, Vals: []uint16{0}}, api.Request{Fn: 8, Sub: sub, Vals: []uint16{515}})
	}
	all = append(all, api.Request{Fn: 17}, api.Request{Fn: 1, Count: 2001}, api.Request{Fn: 3, Count: 65535})
	for _, q := range all {
		b, why := pdu.Bytes(q)
		if why != api.OK {
			t.Fatal("a request that is not Right")
		}
		mustPdu(t, d, m, b)
		mustPdu(t, d, m, b[:len(b)-1])
		mustPdu(t, d, m, append(slices.Clone(b), 0))
		for i := range min(12, len(b)) {
			turned := slices.Clone(b)
			turned[i] ^= 129
			mustPdu(t, d, m, turned)
		}
	}
}

// TestFirstBytes: each first byte, with nothing and with something behind it.
func TestFirstBytes(t *testing.T) {
	d, m := filled(3)
	for first := range 256 {
		for _, rest := range []string{"", "\x00", "\x00\x00\x00\x01", "\x00\x00\x00\x01\x00", "\x00\x01\xff\x00", "\x00\x01\xff\x01", "\x00\x00\x00\x01\x02\x03\x04"} {
			mustPdu(t, d, m, append([]byte{byte(first)}, rest...))
		}
		mustPdu(t, d, m, append([]byte{byte(first)}, make([]byte, 5000)...))
		d, m = filled(3)
		if !slices.Contains(functions, first) {
			if got := d.Pdu([]byte{byte(first)}); !slices.Equal(got, []byte{byte(first | 128), 1}) {
				t.Errorf("P9.1: Pdu(%d): %x", first, got)
			}
			m.messages, m.exceptions = 1, 1
			mustBe(t, "Pdu of another function", d, m)
		}
	}
}

// TestPduOfNothing: nothing, and nothing is counted.
func TestPduOfNothing(t *testing.T) {
	d, m := filled(3)
	for _, b := range [][]byte{nil, {}, roomy([]byte{}, 17)} {
		if got := d.Pdu(b); len(got) != 0 {
			t.Errorf("P9.1: Pdu of nothing: %x", got)
		}
		mustBe(t, "Pdu of nothing", d, m)
	}
}

// TestNilAndEmpty: nil and empty lists mean the same.
func TestNilAndEmpty(t *testing.T) {
	d, m := filled(3)
	for _, fn := range append(functions, 0, 7) {
		for _, q := range []api.Request{{Fn: fn}, {Fn: fn, Count: 1}, {Fn: fn, Count: 1, Vals: vals(1)}, {Fn: fn, Bits: bits(1)}} {
			mustDo(t, d, m, q)
			if q.Bits == nil {
				q.Bits = []bool{}
			}
			if q.Vals == nil {
				q.Vals = []uint16{}
			}
			mustDo(t, d, m, q)
		}
	}
}

// TestNothingChanged: what is handed in stays as it is, its room too, and is not kept.
func TestNothingChanged(t *testing.T) {
	for at := range 8 {
		for n := range 5 {
			for _, q := range append(asks(at, n), api.Request{Fn: 8, Sub: at, Vals: vals(n)}, api.Request{Fn: 7, Bits: bits(n)}) {
				d, m := filled(6)
				q.Bits, q.Vals = roomy(q.Bits, true), roomy(q.Vals, 0xeeee)
				wasBits, wasVals := slices.Clone(whole(q.Bits)), slices.Clone(whole(q.Vals))
				want := m.do(q)
				got := d.Do(q)
				if !slices.Equal(whole(q.Bits), wasBits) || !slices.Equal(whole(q.Vals), wasVals) {
					t.Errorf("R2: Do of function %d changes what is handed in", q.Fn)
				}
				scribble(q.Bits, at%2 == 0)
				scribble(q.Vals, 0x7777)
				if !reply.Same(got, want) {
					t.Errorf("R2: the answer of function %d shares memory with what is handed in: %+v, want %+v", q.Fn, got, want)
				}
				mustBe(t, "what was handed in was overwritten", d, m)
				sameBytes(t, q, wasBits[:len(q.Bits)], wasVals[:len(q.Vals)])
			}
		}
	}
}

// sameBytes asks q of Pdu, with room behind its bytes.
func sameBytes(t *testing.T, q api.Request, b []bool, v []uint16) {
	t.Helper()
	q.Bits, q.Vals = b, v
	l, _ := pdu.Bytes(q)
	d, m := filled(6)
	l = roomy(l, 0xee)
	was := slices.Clone(whole(l))
	want := m.asBytes(slices.Clone(l))
	got := d.Pdu(l)
	if !slices.Equal(whole(l), was) {
		t.Errorf("R2: Pdu of function %d changes what is handed in", q.Fn)
	}
	scribble(l, 0x77)
	if !slices.Equal(got, want) {
		t.Errorf("R2: the answer of Pdu of function %d: %x, want %x", q.Fn, got, want)
	}
	mustBe(t, "the bytes that were handed in were overwritten", d, m)
}

// TestAnswersAreNewMemory: no answer shares memory with the cells or another answer, its room neither.
func TestAnswersAreNewMemory(t *testing.T) {
	for _, q := range append(asks(1, 3), api.Request{Fn: 8, Vals: vals(1)}, api.Request{Fn: 8, Sub: 10, Vals: vals(1)}, api.Request{Fn: 17}) {
		d, m := filled(6)
		m.do(q)
		want := m.do(q)
		one, two := d.Do(q), d.Do(q)
		scribble(one.Bits, false)
		scribble(one.Vals, 0x7777)
		scribble(one.Data, 0x77)
		if !reply.Same(two, want) {
			t.Errorf("R2: answers of function %d share memory: %+v, want %+v", q.Fn, two, want)
		}
		mustBe(t, "an answer was overwritten", d, m)
		scribble(two.Bits, true)
		mustBe(t, "another answer was overwritten", d, m)
		if got, want := d.Do(q), m.do(q); !reply.Same(got, want) {
			t.Errorf("R2: function %d behind answers that were overwritten: %+v, want %+v", q.Fn, got, want)
		}
		b, _ := pdu.Bytes(q)
		answer := slices.Clone(d.Pdu(b))
		m.do(q)
		scribble(d.Pdu(b), 0x77)
		m.do(q)
		if again := d.Pdu(b); !slices.Equal(again, answer) {
			t.Errorf("R2: answers of Pdu of function %d share memory: %x, want %x", q.Fn, again, answer)
		}
		m.do(q)
		mustBe(t, "an answer of Pdu was overwritten", d, m)
	}
}

// anyRequest answers a request that may be, mostly.
func anyRequest(r *rand.Rand, cells int) api.Request {
	at, n := r.Intn(cells+2), r.Intn(5)
	some := slices.DeleteFunc(asks(at, n), func(q api.Request) bool { return r.Intn(2) == 0 })
	some = append(some,
		api.Request{Fn: 8, Sub: []int{0, 10, 11, 13, 14, r.Intn(16)}[r.Intn(6)], Vals: []uint16{uint16(r.Intn(2))}},
		api.Request{Fn: 17}, api.Request{Fn: r.Intn(256)},
		api.Request{Fn: 23, At: at, Count: n, WAt: r.Intn(cells + 2), Vals: vals(r.Intn(5))},
	)
	q := some[r.Intn(len(some))]
	for i := range q.Bits {
		q.Bits[i] = r.Intn(2) == 0
	}
	for i := range q.Vals {
		if q.Fn != 8 {
			q.Vals[i] = uint16(r.Intn(65536))
		}
	}
	if r.Intn(20) == 0 {
		*[]*int{&q.Fn, &q.At, &q.Count, &q.WAt, &q.Sub}[r.Intn(5)] = wild[r.Intn(len(wild))]
	}
	return q
}

// TestRuns: many devices, asked as it comes, by requests and by bytes, held against their models.
func TestRuns(t *testing.T) {
	r := rand.New(rand.NewSource(9))
	for range 150 {
		cells := 1 + r.Intn(12)
		d, m := filled(cells)
		for range 200 {
			q := anyRequest(r, cells)
			switch r.Intn(5) {
			case 0:
				n := r.Intn(1000) - 500
				d.Unit(n)
				m.unit = n & 255
			case 1:
				at := r.Intn(cells)
				m.discretes[at], m.inputs[at] = !m.discretes[at], uint16(r.Intn(65536))
				d.Store().SetBits(api.Discretes, at, m.discretes[at:at+1])
				d.Store().SetVals(api.Inputs, at, m.inputs[at:at+1])
			case 2:
				b, _ := pdu.Bytes(q)
				if len(b) > 0 && r.Intn(5) == 0 {
					b[r.Intn(len(b))] ^= 1 << r.Intn(8)
				}
				mustPdu(t, d, m, b)
			default:
				mustDo(t, d, m, q)
			}
		}
	}
}

// TestExamples: the chapter's runs and examples.
func TestExamples(t *testing.T) {
	if r := device.New(4).Do(api.Request{Fn: api.ReadCoils, At: 4, Count: 1}); !reply.Same(r, reply.Refuse(1, api.BadAddress)) {
		t.Errorf("P9.1: New(4): Do(ReadCoils, At 4, Count 1) = %+v, want BadAddress", r)
	}
	if b := device.New(4).Pdu([]byte{7}); !slices.Equal(b, []byte{0x87, 1}) {
		t.Errorf("P9.1: Pdu(7) = %x, want 8701", b)
	}
	if r := device.New(4).Do(api.Request{}); !reply.Same(r, api.Reply{Code: api.BadFunction}) {
		t.Errorf("P9.1: Do of a zero Request = %+v, want BadFunction", r)
	}
}
