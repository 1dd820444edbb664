package store_test

import (
	"math"
	"math/big"
	"math/rand"
	"slices"
	"testing"

	"burgage/api"
	"burgage/store"
)

// maxCells is how many cells a space has at most.
const maxCells = 65536

// edges are numbers at which something may turn or wrap round; a store of cells turns at those, too.
func edges(cells int) []int {
	return []int{
		math.MinInt, math.MinInt + 1, math.MinInt / 2, -1 << 32, -65536, -2, -1, 0, 1, 2,
		cells - 1, cells, cells + 1, 65535, 65536, 65537, 1 << 31, 1 << 32,
		math.MaxInt / 2, math.MaxInt/2 + 1, math.MaxInt - cells, math.MaxInt - 1, math.MaxInt,
	}
}

// otherSpaces are numbers that are no space's.
var otherSpaces = []int{-1, -2, 4, 5, 256, 257, 1 << 16, 1 << 32, 1<<32 + 2, math.MinInt, math.MinInt + 3, math.MaxInt}

// roomy answers a list with the values of l and, behind its length, room filled with mark.
func roomy[T any](l []T, mark T) []T {
	all := slices.Concat(l, slices.Repeat([]T{mark}, 16))
	return all[:len(l):len(all)]
}

// whole answers l with the room behind it.
func whole[T any](l []T) []T { return l[:cap(l)] }

// scribble overwrites l and the room behind it.
func scribble[T any](l []T, mark T) {
	for i := range whole(l) {
		whole(l)[i] = mark
	}
}

// hasBits tells whether a space's cells are bits.
func hasBits(space int) bool { return space == api.Coils || space == api.Discretes }

// model is a store told another way: a number a cell, space by space.
type model [4][]int

func newModel(cells int) *model {
	var m model
	for i := range m {
		m[i] = make([]int, cells)
	}
	return &m
}

func (m *model) clone() *model {
	var out model
	for i := range m {
		out[i] = slices.Clone(m[i])
	}
	return &out
}

func (m *model) same(o *model) bool {
	for i := range m {
		if !slices.Equal(m[i], o[i]) {
			return false
		}
	}
	return true
}

// put sets cells of m, and tells whether they are all there.
func (m *model) put(space, at int, l []int) bool {
	if at < 0 || at+len(l) > len(m[space]) {
		return false
	}
	copy(m[space][at:], l)
	return true
}

// set puts the numbers of l into a space of s, whichever kind its cells are.
func set(s *store.Store, space, at int, l []int) bool {
	if hasBits(space) {
		b := make([]bool, len(l))
		for i, n := range l {
			b[i] = n != 0
		}
		return s.SetBits(space, at, b)
	}
	v := make([]uint16, len(l))
	for i, n := range l {
		v[i] = uint16(n)
	}
	return s.SetVals(space, at, v)
}

// get answers n cells of a space of s as numbers, whichever kind they are.
func get(s *store.Store, space, at, n int) ([]int, bool) {
	var out []int
	if hasBits(space) {
		l, ok := s.Bits(space, at, n)
		for _, b := range l {
			x := 0
			if b {
				x = 1
			}
			out = append(out, x)
		}
		return out, ok
	}
	l, ok := s.Vals(space, at, n)
	for _, v := range l {
		out = append(out, int(v))
	}
	return out, ok
}

// mustBe ends the test at the first cell of s that is not as m has it.
func mustBe(t *testing.T, when string, s *store.Store, m *model) {
	t.Helper()
	for space := range m {
		n := len(m[space])
		if s.Len() != n {
			t.Fatalf("P8.1: %s: Len() = %d, want %d", when, s.Len(), n)
		}
		got, ok := get(s, space, 0, n)
		if !ok || len(got) != n {
			t.Fatalf("P8.1: %s: space %d: %d of %d cells, %v", when, space, len(got), n, ok)
		}
		for i, want := range m[space] {
			if got[i] != want {
				t.Fatalf("P8.1: %s: cell %d of space %d is %d, want %d", when, i, space, got[i], want)
			}
		}
	}
}

// filled answers a store each of whose cells tells its space and place as far as its kind can, and the model of it.
func filled(cells int) (*store.Store, *model) {
	s, m := store.New(cells), newModel(cells)
	for space := range m {
		l := make([]int, cells)
		for i := range l {
			if l[i] = (1000*space + i + 1) & 0xffff; hasBits(space) {
				l[i] = (i + space) % 2
			}
		}
		set(s, space, 0, l)
		m.put(space, 0, l)
	}
	return s, m
}

func TestNew(t *testing.T) {
	for _, n := range []int{0, -1, -2, -65536, maxCells + 1, 2 * maxCells, 1 << 32, 1<<32 + 5, math.MaxInt, math.MinInt, math.MinInt + 5} {
		if store.New(n) != nil {
			t.Errorf("P8.1: New(%d) is not nil", n)
		}
	}
	for _, n := range []int{1, 2, 3, 512, maxCells - 1, maxCells} {
		s := store.New(n)
		if s == nil {
			t.Fatalf("P8.1: New(%d) = nil", n)
		}
		mustBe(t, "New", s, newModel(n))
	}
}

func TestNewIsItsOwn(t *testing.T) {
	one, two := store.New(3), store.New(3)
	set(one, api.Coils, 0, []int{1})
	set(one, api.Holdings, 0, []int{1})
	mustBe(t, "another store was set", two, newModel(3))
}

// TestSpaces: what is set in a space is read there, and in no other one.
func TestSpaces(t *testing.T) {
	for space := range 4 {
		s, m := store.New(4), newModel(4)
		if !set(s, space, 1, []int{1, 1}) || !m.put(space, 1, []int{1, 1}) {
			t.Errorf("P8.1: cells of space %d can't be set", space)
		}
		mustBe(t, "one space was set", s, m)
	}
	s, m := filled(7)
	mustBe(t, "all spaces were set", s, m)
}

// TestReadExactly: every place and number of cells at which something may turn, reckoned with numbers that cannot wrap round.
func TestReadExactly(t *testing.T) {
	for _, cells := range []int{1, 5, maxCells} {
		s, m := filled(cells)
		for space := range 4 {
			for _, at := range edges(cells) {
				for _, n := range edges(cells) {
					behind := new(big.Int).Add(big.NewInt(int64(at)), big.NewInt(int64(n)))
					want := at >= 0 && n >= 0 && behind.Cmp(big.NewInt(int64(cells))) <= 0
					got, ok := get(s, space, at, n)
					if ok != want || !ok && len(got) != 0 || ok && !slices.Equal(got, m[space][at:at+n]) {
						t.Errorf("P8.1: of %d cells of space %d, %d from %d on: %d cells, %v, want %v", cells, space, n, at, len(got), ok, want)
					}
				}
			}
		}
		mustBe(t, "all was read", s, m)
	}
}

// TestSetExactly: every place at which something may turn; a set that is refused sets nothing.
func TestSetExactly(t *testing.T) {
	for _, cells := range []int{1, 5, 40} {
		for space := range 4 {
			s, m := filled(cells)
			for _, at := range edges(cells) {
				for _, n := range []int{0, 1, 2, cells - 1, cells, cells + 1, 2 * cells} {
					l := slices.Repeat([]int{1}, n)
					if at%2 == 0 {
						l = slices.Repeat([]int{0}, n)
					}
					want := at >= 0 && at <= cells && at+n <= cells
					if want {
						m.put(space, at, l)
					}
					if ok := set(s, space, at, l); ok != want {
						t.Errorf("P8.1: of %d cells of space %d, %d set from %d on: %v, want %v", cells, space, n, at, ok, want)
					}
					mustBe(t, "a space was set", s, m)
				}
			}
		}
	}
}

// TestWrongSpaces: bits of spaces of numbers, numbers of spaces of bits, and numbers that are no space's: even of no cells.
func TestWrongSpaces(t *testing.T) {
	s, m := filled(5)
	check := func(space int, bits, vals bool) {
		for _, at := range edges(5) {
			for _, n := range edges(5) {
				if l, ok := s.Bits(space, at, n); bits && (ok || len(l) != 0) {
					t.Errorf("P8.1: Bits(%d, %d, %d) = %v, %v, want none, false", space, at, n, l, ok)
				}
				if l, ok := s.Vals(space, at, n); vals && (ok || len(l) != 0) {
					t.Errorf("P8.1: Vals(%d, %d, %d) = %v, %v, want none, false", space, at, n, l, ok)
				}
			}
			for n := range 7 {
				if bits && s.SetBits(space, at, slices.Repeat([]bool{at%2 == 0}, n)) {
					t.Errorf("P8.1: SetBits(%d, %d, %d bits) = true", space, at, n)
				}
				if vals && s.SetVals(space, at, slices.Repeat([]uint16{77}, n)) {
					t.Errorf("P8.1: SetVals(%d, %d, %d numbers) = true", space, at, n)
				}
			}
		}
	}
	for _, space := range otherSpaces {
		check(space, true, true)
	}
	for space := range 4 {
		check(space, !hasBits(space), hasBits(space))
	}
	mustBe(t, "other spaces were asked", s, m)
}

// TestNilAndEmpty: nil and empty lists mean the same.
func TestNilAndEmpty(t *testing.T) {
	s, m := filled(3)
	for space := range 4 {
		for at := -1; at <= 4; at++ {
			want := at >= 0 && at <= 3
			for _, ok := range []bool{
				s.SetBits(space, at, nil) == (want && hasBits(space)),
				s.SetBits(space, at, []bool{}) == (want && hasBits(space)),
				s.SetVals(space, at, nil) == (want && !hasBits(space)),
				s.SetVals(space, at, []uint16{}) == (want && !hasBits(space)),
			} {
				if !ok {
					t.Errorf("P8.1: none set from %d on of space %d", at, space)
				}
			}
		}
	}
	mustBe(t, "none were set", s, m)
}

func TestVals(t *testing.T) {
	s := store.New(5)
	want := []uint16{0, 1, 255, 256, 65535}
	for _, space := range []int{api.Inputs, api.Holdings} {
		if got, ok := s.Vals(space, 0, 5); !ok || !slices.Equal(got, make([]uint16, 5)) {
			t.Errorf("P8.1: Vals of space %d = %v, %v", space, got, ok)
		}
		if !s.SetVals(space, 0, want) {
			t.Errorf("P8.1: SetVals of space %d = false", space)
		}
		if got, ok := s.Vals(space, 0, 5); !ok || !slices.Equal(got, want) {
			t.Errorf("P8.1: Vals of space %d = %v, %v, want %v", space, got, ok, want)
		}
	}
}

// TestCopy: a copy has the same cells, and neither store is changed by what is set in the other one.
func TestCopy(t *testing.T) {
	for _, cells := range []int{1, 2, 9} {
		for space := range 4 {
			for at := range cells {
				s, m := filled(cells)
				c := s.Copy()
				if c == s {
					t.Fatal("P8.1: Copy answers the store itself")
				}
				mustBe(t, "Copy", c, m)
				changed := m.clone()
				changed.put(space, at, []int{1 - changed[space][at]&1})
				set(c, space, at, changed[space][at:at+1])
				mustBe(t, "its copy was set", s, m)
				mustBe(t, "a copy was set", c, changed)
				c = s.Copy()
				set(s, space, at, changed[space][at:at+1])
				mustBe(t, "a store was set", s, changed)
				mustBe(t, "what it was copied from was set", c, m)
			}
		}
	}
}

// TestSame: one cell that is not alike, of any space, at any place, is seen.
func TestSame(t *testing.T) {
	for _, cells := range []int{1, 2, 9} {
		s, m := filled(cells)
		o, _ := filled(cells)
		if !s.Same(s) || !s.Same(o) || !o.Same(s) {
			t.Errorf("P8.1: stores of %d cells, all alike, are not Same", cells)
		}
		for space := range 4 {
			for at := range cells {
				was := m[space][at]
				set(o, space, at, []int{1 - was&1})
				if s.Same(o) || o.Same(s) {
					t.Errorf("P8.1: Same, though cell %d of space %d is not alike", at, space)
				}
				set(o, space, at, []int{was})
				if !s.Same(o) || !o.Same(s) {
					t.Errorf("P8.1: not Same, though cell %d of space %d is alike again", at, space)
				}
			}
		}
	}
}

func TestSameOfOthers(t *testing.T) {
	sizes := []int{1, 2, 3, 512, maxCells - 1, maxCells}
	for _, a := range sizes {
		s := store.New(a)
		if s.Same(nil) {
			t.Errorf("P8.1: a store of %d cells is Same as nil", a)
		}
		for _, b := range sizes {
			if got := s.Same(store.New(b)); got != (a == b) {
				t.Errorf("P8.1: new stores of %d and %d cells: Same = %v", a, b, got)
			}
		}
		// New again, after all was set and set back.
		for space := range 4 {
			set(s, space, 0, slices.Repeat([]int{1}, a))
			set(s, space, 0, make([]int, a))
		}
		if o := store.New(a); !s.Same(o) || !o.Same(s) {
			t.Errorf("P8.1: a store of %d cells that was set back is not Same as a new one", a)
		}
	}
}

// TestRuns: many stores, set, read and copied as it comes, held against their models.
func TestRuns(t *testing.T) {
	r := rand.New(rand.NewSource(8))
	for range 200 {
		cells := 1 + r.Intn(12)
		s, m := store.New(cells), newModel(cells)
		for range 60 {
			c, d := s, m
			if r.Intn(4) == 0 {
				c, d = s.Copy(), m.clone()
			}
			space, at, l := r.Intn(4), r.Intn(cells+4)-2, make([]int, r.Intn(5))
			for i := range l {
				l[i] = r.Intn(2)
			}
			if got, want := set(c, space, at, l), d.put(space, at, l); got != want {
				t.Fatalf("P8.1: of %d cells of space %d, %d set from %d on: %v, want %v", cells, space, len(l), at, got, want)
			}
			if got := s.Same(c); got != m.same(d) {
				t.Fatalf("P8.1: Same = %v of %v and %v", got, m, d)
			}
			mustBe(t, "a step of a run", c, d)
			mustBe(t, "its copy took a step", s, m)
			s, m = c, d
		}
	}
}

// TestNothingChanged: what is handed in stays as it is, and its room is neither read nor written.
func TestNothingChanged(t *testing.T) {
	for space := range 4 {
		for at := -1; at <= 6; at++ {
			for n := range 7 {
				s, m := filled(5)
				b, v := roomy(slices.Repeat([]bool{true}, n), false), roomy(slices.Repeat([]uint16{1}, n), 77)
				wasB, wasV := slices.Clone(whole(b)), slices.Clone(whole(v))
				var ok bool
				if hasBits(space) {
					ok = s.SetBits(space, at, b)
				} else {
					ok = s.SetVals(space, at, v)
				}
				if want := m.put(space, at, slices.Repeat([]int{1}, n)); ok != want {
					t.Errorf("P8.1: %d cells set from %d on: %v, want %v", n, at, ok, want)
				}
				if !slices.Equal(whole(b), wasB) || !slices.Equal(whole(v), wasV) {
					t.Errorf("R2: what was handed in is changed: %v, %v", whole(b), whole(v))
				}
				mustBe(t, "a list with room behind it was set", s, m)
				scribble(b, false)
				scribble(v, 99)
				mustBe(t, "the list that had been set was overwritten", s, m)
			}
		}
	}
}

// TestAnswersAreNewMemory: no answer shares memory with the store or another answer, its room neither.
func TestAnswersAreNewMemory(t *testing.T) {
	for space := range 4 {
		for at := range 6 {
			for n := range 6 - at {
				s, m := filled(5)
				c := s.Copy()
				if hasBits(space) {
					one, _ := s.Bits(space, at, n)
					two, _ := s.Bits(space, at, n)
					was := slices.Clone(one)
					scribble(two, len(was) > 0 && !was[0])
					if !slices.Equal(one, was) {
						t.Errorf("R2: answers of Bits share memory: %v, were %v", one, was)
					}
				} else {
					one, _ := s.Vals(space, at, n)
					two, _ := s.Vals(space, at, n)
					was := slices.Clone(one)
					scribble(two, 7777)
					if !slices.Equal(one, was) {
						t.Errorf("R2: answers of Vals share memory: %v, were %v", one, was)
					}
				}
				mustBe(t, "an answer was overwritten", s, m)
				mustBe(t, "an answer of what it was copied from was overwritten", c, m)
			}
		}
	}
}

// TestExamples: the chapter's runs and examples.
func TestExamples(t *testing.T) {
	if l, ok := store.New(2).Vals(api.Holdings, 0, 3); ok || len(l) != 0 {
		t.Errorf("P8.1: New(2): Vals(Holdings, 0, 3) = %v, %v, want none, false", l, ok)
	}
	for _, n := range []int{1, 2, 512, maxCells} {
		s := store.New(n)
		for _, at := range []int{0, n / 2, n - 1, n} {
			if !s.SetBits(api.Coils, at, nil) || !s.SetBits(api.Discretes, at, []bool{}) {
				t.Errorf("P8.1: of %d cells, none set from %d on: false", n, at)
			}
		}
		if s.SetBits(api.Coils, -1, nil) || s.SetBits(api.Coils, n+1, nil) {
			t.Errorf("P8.1: of %d cells, none set behind the last or ahead of the first: true", n)
		}
		if l, ok := s.Bits(api.Holdings, 0, 1); ok || len(l) != 0 {
			t.Errorf("P8.1: Bits of Holdings = %v, %v, want none, false", l, ok)
		}
	}
}
