package window_test

import (
	"math"
	"math/big"
	"math/rand"
	"slices"
	"testing"

	"burgage/api"
	"burgage/span"
	"burgage/window"
)

// addresses is how many virtual cells a space has.
const addresses = 65536

const spaces = 4

func win(space, virtual, physical, count int) api.Window {
	return api.Window{Space: space, Virtual: virtual, Physical: physical, Count: count}
}

// at is a window whose space says nothing.
func at(virtual, physical, count int) api.Window { return win(api.Inputs, virtual, physical, count) }

func piece(at, physical, count int) window.Piece {
	return window.Piece{At: at, Physical: physical, Count: count}
}

func list(l ...api.Window) []api.Window { return l }

// wild are numbers at which something may turn or wrap round.
var wild = []int{
	math.MinInt, math.MinInt + 1, math.MinInt / 2, -1 << 32, -1 << 31, -65536, -512, -1, 0, 1, 2, 3, 4, 5, 255, 256,
	510, 511, 512, 513, 65534, 65535, 65536, 65537, 1<<31 - 1, 1 << 31, 1<<31 + 1, 1 << 32, math.MaxInt / 2, math.MaxInt - 1, math.MaxInt,
}

// wrong are windows that are not Right, many of which have cells in common with each other and with small ones that are.
var wrong = []api.Window{
	{}, at(0, 0, 0), at(0, 0, -1), at(3, 3, -1), at(-1, 0, 1), at(-1, 0, 9), at(0, -1, 1), at(0, -1, 9), at(-3, -3, 9),
	win(-1, 0, 0, 9), win(4, 0, 0, 9), win(5, 0, 0, 9), win(math.MinInt, 0, 0, 9), win(math.MaxInt, 0, 0, 9), win(256, 0, 0, 9),
	at(addresses, 0, 1), at(addresses-1, 0, 2), at(addresses-8, 0, 9), at(0, api.Cells, 1), at(0, api.Cells-1, 2), at(0, 1, api.Cells), at(0, 0, api.Cells+1),
	at(0, 0, addresses), at(0, 0, math.MaxInt), at(0, 0, math.MinInt), at(1, 1, math.MaxInt), at(math.MaxInt, 0, 1), at(0, math.MaxInt, 1),
	at(math.MaxInt, 0, math.MaxInt), at(0, math.MaxInt, math.MaxInt), at(math.MinInt, 0, math.MinInt), at(math.MinInt, math.MinInt, math.MaxInt),
	at(math.MinInt, 0, math.MinInt+9), at(0, math.MinInt, math.MinInt+9), at(10, 10, -5), at(1<<32, 0, 9), at(0, 1<<32, 9),
}

// roomy answers a list with what is in l and, behind its length, room filled with mark.
func roomy(l []api.Window, mark api.Window) []api.Window {
	all := slices.Concat(l, slices.Repeat([]api.Window{mark}, 8))
	return all[:len(l):len(all)]
}

// whole answers l with the room behind it.
func whole[T any](l []T) []T { return l[:cap(l)] }

// scribble overwrites l and the room behind it.
func scribble[T any](l []T, mark T) {
	for i := range whole(l) {
		whole(l)[i] = mark
	}
}

// cell of a space.
type cell struct{ space, at int }

// rightly tells by numbers that cannot wrap round whether w is Right.
func rightly(w api.Window) bool {
	ends := func(at, most int) bool {
		behind := new(big.Int).Add(big.NewInt(int64(at)), big.NewInt(int64(w.Count)))
		return at >= 0 && behind.Cmp(big.NewInt(int64(most))) <= 0
	}
	return w.Space >= 0 && w.Space < spaces && w.Count > 0 && ends(w.Virtual, addresses) && ends(w.Physical, api.Cells)
}

// first answers the first window of l that has the virtual cell c; -1 of none.
func first(l []api.Window, c cell) int {
	return slices.IndexFunc(l, func(w api.Window) bool {
		return rightly(w) && w.Space == c.space && c.at >= w.Virtual && c.at < w.Virtual+w.Count
	})
}

// mapped works Map out another way: cell by cell, those of one piece put together.
func mapped(l []api.Window, space, at, n int) ([]window.Piece, bool) {
	if at < 0 || n < 1 || at >= addresses || n > addresses {
		return nil, false
	}
	var out []window.Piece
	now := -1
	for c := at; c < at+n; c++ {
		if now >= 0 && c < l[now].Virtual+l[now].Count {
			out[len(out)-1].Count++
			continue
		}
		now = first(l, cell{space, c})
		if now < 0 {
			return nil, false
		}
		out = append(out, piece(c, l[now].Physical+c-l[now].Virtual, 1))
	}
	return out, true
}

// backed works Back out another way: by what lies at each cell.
func backed(l []api.Window, space, physical int) (int, bool) {
	for _, w := range l {
		if !rightly(w) || w.Space != space {
			continue
		}
		for k := range w.Count {
			if w.Physical+k == physical {
				return w.Virtual + k, true
			}
		}
	}
	return 0, false
}

// cells answers how many windows of l have each virtual and each physical cell.
func cells(l []api.Window) (virtual, physical map[cell]int) {
	virtual, physical = map[cell]int{}, map[cell]int{}
	for _, w := range l {
		if !rightly(w) {
			continue
		}
		for k := range w.Count {
			virtual[cell{w.Space, w.Virtual + k}]++
			physical[cell{w.Space, w.Physical + k}]++
		}
	}
	return virtual, physical
}

// met works Meets out another way.
func met(a, b []api.Window) bool {
	_, one := cells(a)
	_, two := cells(b)
	for c := range one {
		if two[c] > 0 {
			return true
		}
	}
	return false
}

// owned works Own out another way.
func owned(l []api.Window) bool {
	virtual, physical := cells(l)
	for _, m := range []map[cell]int{virtual, physical} {
		for _, n := range m {
			if n > 1 {
				return false
			}
		}
	}
	return true
}

// check holds every call on l against its model, for the first cells of each space and for one that is none.
func check(t *testing.T, l []api.Window, most int) {
	t.Helper()
	if got := window.Own(l); got != owned(l) {
		t.Fatalf("P10.1: Own(%v) = %v", l, got)
	}
	for space := -1; space <= spaces; space++ {
		for a := -1; a <= most; a++ {
			for n := range most + 1 - max(a, 0) {
				want, is := mapped(l, space, a, n)
				if got, ok := window.Map(l, space, a, n); ok != is || !slices.Equal(got, want) {
					t.Fatalf("P10.1: Map(%v, %d, %d, %d) = %v, %v, want %v, %v", l, space, a, n, got, ok, want, is)
				}
			}
			want, is := backed(l, space, a)
			if got, ok := window.Back(l, space, a); ok != is || got != want {
				t.Fatalf("P10.1: Back(%v, %d, %d) = %d, %v, want %d, %v", l, space, a, got, ok, want, is)
			}
		}
	}
}

// some answers a list of small windows, some of which are not Right.
func some(r *rand.Rand, most int) []api.Window {
	l := make([]api.Window, r.Intn(6))
	for i := range l {
		l[i] = win(r.Intn(spaces), r.Intn(most), r.Intn(most), 1+r.Intn(4))
		if r.Intn(5) == 0 {
			l[i] = wrong[r.Intn(len(wrong))]
		}
	}
	return l
}

func TestRight(t *testing.T) {
	cases := []struct {
		w    api.Window
		want bool
	}{
		{win(api.Coils, 0, 0, 1), true}, {win(api.Discretes, 0, 0, 1), true}, {win(api.Inputs, 0, 0, 1), true}, {win(api.Holdings, 0, 0, 1), true},
		{win(-1, 0, 0, 1), false}, {win(4, 0, 0, 1), false},
		{at(65535, 511, 1), true}, {at(65535, 510, 1), true}, {at(65534, 510, 2), true},
		{at(65536, 511, 1), false}, {at(65535, 512, 1), false}, {at(65535, 510, 2), false}, {at(65534, 511, 2), false},
		{at(0, 0, 512), true}, {at(65024, 0, 512), true}, {at(65025, 0, 512), false}, {at(0, 1, 512), false}, {at(0, 0, 513), false}, {at(0, 1, 511), true},
		{at(5, 5, 0), false}, {at(5, 5, -1), false}, {at(-1, 5, 1), false}, {at(5, -1, 1), false}, {at(-1, 5, 3), false}, {at(5, -1, 3), false},
		{at(5, 9, 1), true}, {at(9, 5, 1), true},
	}
	for _, c := range cases {
		if got := window.Right(c.w); got != c.want {
			t.Errorf("P10.1: Right(%v) = %v, want %v", c.w, got, c.want)
		}
	}
	for _, w := range wrong {
		if window.Right(w) {
			t.Errorf("P10.1: Right(%v) = true", w)
		}
	}
}

// TestRightExactly: the ends are reckoned with numbers that cannot wrap round.
func TestRightExactly(t *testing.T) {
	for _, v := range wild {
		for _, p := range wild {
			for _, n := range wild {
				if w := at(v, p, n); window.Right(w) != rightly(w) {
					t.Errorf("P10.1: Right(%v) = %v", w, window.Right(w))
				}
			}
		}
	}
	for _, s := range wild {
		if w := win(s, 7, 8, 9); window.Right(w) != (s >= 0 && s < spaces) {
			t.Errorf("P10.1: Right(%v) = %v", w, window.Right(w))
		}
	}
}

func TestMap(t *testing.T) {
	cases := []struct {
		l     []api.Window
		at, n int
		want  []window.Piece
	}{
		{list(at(0, 100, 9)), 0, 9, []window.Piece{piece(0, 100, 9)}},
		{list(at(0, 100, 9)), 2, 3, []window.Piece{piece(2, 102, 3)}},
		{list(at(0, 100, 9)), 8, 1, []window.Piece{piece(8, 108, 1)}},
		{list(at(300, 0, 9)), 305, 4, []window.Piece{piece(305, 5, 4)}},
		{list(at(7, 7, 2)), 7, 2, []window.Piece{piece(7, 7, 2)}},
		{list(at(0, 100, 3), at(3, 50, 3)), 1, 4, []window.Piece{piece(1, 101, 2), piece(3, 50, 2)}},
		{list(at(3, 50, 3), at(0, 100, 3)), 1, 4, []window.Piece{piece(1, 101, 2), piece(3, 50, 2)}},
		// Pieces of two windows stay two, though what they lead to lies side by side.
		{list(at(0, 100, 3), at(3, 103, 3)), 1, 4, []window.Piece{piece(1, 101, 2), piece(3, 103, 2)}},
		// The first one of the list that has the cell, though a later one goes farther.
		{list(at(0, 100, 2), at(0, 50, 9)), 0, 4, []window.Piece{piece(0, 100, 2), piece(2, 52, 2)}},
		{list(at(0, 50, 9), at(0, 100, 2)), 0, 4, []window.Piece{piece(0, 50, 4)}},
		// One ahead in the list that begins later does not cut a piece short.
		{list(at(2, 100, 1), at(0, 50, 9)), 0, 4, []window.Piece{piece(0, 50, 4)}},
		{list(at(2, 100, 1), at(0, 50, 9)), 2, 4, []window.Piece{piece(2, 100, 1), piece(3, 53, 3)}},
		// Two that lie at the same cells.
		{list(at(0, 100, 2), at(2, 100, 2)), 0, 4, []window.Piece{piece(0, 100, 2), piece(2, 100, 2)}},
		// Those of other spaces are none, nor are those that are not Right.
		{list(win(api.Holdings, 0, 5, 9), at(0, 100, 9)), 0, 4, []window.Piece{piece(0, 100, 4)}},
		{list(win(api.Coils, 0, 5, 9), at(0, 100, 2), win(api.Discretes, 2, 5, 9), at(2, 50, 2)), 0, 4, []window.Piece{piece(0, 100, 2), piece(2, 50, 2)}},
		{list(at(0, 510, 4), at(0, 100, 4)), 0, 4, []window.Piece{piece(0, 100, 4)}},
		{list(at(0, 0, 0), at(0, 100, 4), at(-1, 0, 9)), 0, 4, []window.Piece{piece(0, 100, 4)}},
		{list(at(0, 0, 512)), 0, 512, []window.Piece{piece(0, 0, 512)}},
		{list(at(65024, 0, 512)), 65024, 512, []window.Piece{piece(65024, 0, 512)}},
		{list(at(65535, 511, 1)), 65535, 1, []window.Piece{piece(65535, 511, 1)}},
		{list(at(65535, 0, 1), at(65534, 511, 1)), 65534, 2, []window.Piece{piece(65534, 511, 1), piece(65535, 0, 1)}},
		{list(at(512, 0, 512), at(0, 0, 512)), 1, 1023, []window.Piece{piece(1, 1, 511), piece(512, 0, 512)}},
	}
	for _, c := range cases {
		if got, ok := window.Map(c.l, api.Inputs, c.at, c.n); !ok || !slices.Equal(got, c.want) {
			t.Errorf("P10.1: Map(%v, Inputs, %d, %d) = %v, %v, want %v, true", c.l, c.at, c.n, got, ok, c.want)
		}
	}
}

func TestMapOfNone(t *testing.T) {
	cases := []struct {
		l            []api.Window
		space, at, n int
	}{
		{list(at(0, 100, 3)), api.Inputs, 0, 4},
		{list(at(1, 100, 3)), api.Inputs, 0, 4},
		{list(at(0, 100, 3)), api.Inputs, 3, 1},
		{list(at(0, 100, 2), at(3, 103, 2)), api.Inputs, 1, 3},
		{list(at(0, 100, 9)), api.Inputs, 0, 0},
		{list(at(0, 100, 9)), api.Inputs, 2, -1},
		{list(at(0, 100, 9)), api.Inputs, -1, 2},
		{list(at(0, 100, 9)), api.Holdings, 0, 1},
		{list(at(0, 100, 9)), api.Coils, 0, 1},
		{list(win(4, 0, 100, 9)), 4, 0, 1},
		{list(win(-1, 0, 100, 9)), -1, 0, 1},
		{list(at(0, 510, 4)), api.Inputs, 0, 1},
		{list(at(65535, 0, 2)), api.Inputs, 65535, 1},
		{list(at(65535, 0, 1)), api.Inputs, 65535, 2},
		{list(at(0, 100, 2), at(2, 510, 4)), api.Inputs, 0, 3},
		{list(at(0, 100, 2), win(api.Holdings, 2, 0, 4)), api.Inputs, 0, 3},
		// What lies at a cell that is asked is not asked for.
		{list(at(0, 100, 9)), api.Inputs, 100, 1},
	}
	for _, c := range cases {
		if got, ok := window.Map(c.l, c.space, c.at, c.n); ok || len(got) != 0 {
			t.Errorf("P10.1: Map(%v, %d, %d, %d) = %v, %v, want none, false", c.l, c.space, c.at, c.n, got, ok)
		}
	}
}

func TestBack(t *testing.T) {
	l := list(at(300, 100, 4), win(api.Holdings, 7, 100, 4), at(9, 98, 4), at(65535, 511, 1), at(0, 0, 1), at(40, 509, 4))
	cases := []struct {
		space, physical, want int
		ok                    bool
	}{
		{api.Inputs, 100, 300, true}, {api.Inputs, 103, 303, true}, {api.Inputs, 104, 0, false},
		{api.Inputs, 99, 10, true}, {api.Inputs, 98, 9, true}, {api.Inputs, 97, 0, false},
		// Two have it: the first one of the list.
		{api.Inputs, 101, 301, true},
		{api.Holdings, 101, 8, true}, {api.Holdings, 99, 0, false}, {api.Coils, 101, 0, false},
		{api.Inputs, 511, 65535, true}, {api.Inputs, 0, 0, true}, {api.Inputs, 1, 0, false},
		// What is not Right has none.
		{api.Inputs, 510, 0, false}, {api.Inputs, 512, 0, false},
		// A virtual cell is not asked for.
		{api.Inputs, 300, 0, false},
		{-1, 100, 0, false}, {4, 100, 0, false}, {api.Inputs, -1, 0, false},
	}
	for _, c := range cases {
		if got, ok := window.Back(l, c.space, c.physical); got != c.want || ok != c.ok {
			t.Errorf("P10.1: Back(%d, %d) = %d, %v, want %d, %v", c.space, c.physical, got, ok, c.want, c.ok)
		}
	}
}

func TestMeets(t *testing.T) {
	cases := []struct {
		a, b []api.Window
		want bool
	}{
		{list(at(0, 0, 4)), list(at(9, 4, 4)), false},
		{list(at(0, 0, 5)), list(at(9, 4, 4)), true},
		{list(at(0, 0, 9)), list(at(9, 4, 1)), true},
		{list(at(0, 4, 1)), list(at(9, 4, 1)), true},
		{list(at(0, 0, 512)), list(at(9, 511, 1)), true},
		{list(at(0, 0, 511)), list(at(9, 511, 1)), false},
		// Virtual cells are each tenant's own.
		{list(at(0, 0, 4)), list(at(0, 4, 4)), false},
		{list(win(api.Holdings, 0, 0, 5)), list(at(9, 4, 4)), false},
		{list(win(api.Coils, 0, 0, 5)), list(win(api.Discretes, 0, 0, 5)), false},
		// One of each: the last ones, the first ones.
		{list(at(0, 0, 4), at(4, 8, 1), at(5, 100, 9)), list(at(0, 4, 4), at(4, 9, 1), at(5, 108, 9)), true},
		{list(at(5, 100, 9), at(0, 0, 4), at(4, 8, 1)), list(at(5, 92, 9), at(0, 4, 4), at(4, 9, 1)), true},
		{list(at(5, 100, 9), at(0, 0, 4), at(4, 8, 1)), list(at(5, 91, 9), at(0, 4, 4), at(4, 9, 1)), false},
		// Two of one list have cells in common: that is not asked.
		{list(at(0, 0, 4), at(4, 0, 4)), list(at(0, 4, 4), at(4, 4, 4)), false},
		// What is not Right meets none.
		{list(at(0, 0, 0)), list(at(0, 0, 9)), false},
		{list(at(0, 510, 4)), list(at(0, 510, 1)), false},
		{list(win(4, 0, 0, 4)), list(win(4, 0, 0, 4)), false},
		{list(at(65535, 0, 2)), list(at(0, 0, 2)), false},
		{list(at(65535, 0, 2), at(0, 0, 2)), list(at(65535, 0, 2), at(0, 0, 2)), true},
	}
	for _, c := range cases {
		if got := window.Meets(c.a, c.b); got != c.want {
			t.Errorf("P10.1: Meets(%v, %v) = %v", c.a, c.b, got)
		}
		if got := window.Meets(c.b, c.a); got != c.want {
			t.Errorf("P10.1: Meets(%v, %v) = %v", c.b, c.a, got)
		}
	}
}

func TestOwn(t *testing.T) {
	cases := []struct {
		l    []api.Window
		want bool
	}{
		{list(at(0, 0, 4)), true},
		{list(at(0, 0, 4), at(4, 4, 4)), true},
		{list(at(0, 0, 4), at(3, 4, 4)), false},
		{list(at(0, 0, 4), at(4, 3, 4)), false},
		{list(at(0, 0, 4), at(0, 4, 4)), false},
		{list(at(0, 0, 4), at(4, 0, 4)), false},
		{list(at(0, 0, 4), at(0, 0, 4)), false},
		{list(at(4, 4, 4), at(0, 0, 4)), true},
		{list(at(4, 4, 4), at(1, 0, 4)), false},
		{list(at(4, 4, 4), at(0, 1, 4)), false},
		{list(at(0, 0, 9), at(100, 4, 1)), false},
		{list(at(0, 0, 9), at(4, 100, 1)), false},
		{list(at(65535, 511, 1), at(65534, 510, 1)), true},
		{list(at(65535, 511, 1), at(65535, 510, 1)), false},
		{list(at(65535, 511, 1), at(65534, 511, 1)), false},
		// One's virtual cells may be another's physical ones.
		{list(at(0, 4, 4), at(4, 0, 4)), true},
		{list(win(api.Coils, 0, 0, 4), win(api.Discretes, 0, 0, 4), win(api.Inputs, 0, 0, 4), win(api.Holdings, 0, 0, 4)), true},
		// Any two of them.
		{list(at(0, 0, 4), at(4, 4, 4), at(8, 8, 4)), true},
		{list(at(0, 0, 4), at(4, 4, 4), at(8, 3, 1)), false},
		{list(at(0, 0, 4), at(4, 4, 4), at(8, 4, 1)), false},
		{list(at(0, 0, 4), at(4, 0, 4), at(8, 8, 4)), false},
		// What is not Right has no cells.
		{list(at(0, 0, 4), at(0, 0, 0)), true},
		{list(at(0, 0, 4), at(0, 510, 4)), true},
		{list(at(0, 510, 4), at(0, 510, 4)), true},
		{list(win(4, 0, 0, 4), win(4, 0, 0, 4)), true},
		{list(at(0, 0, 4), at(0, 510, 4), at(0, 0, 4)), false},
	}
	for _, c := range cases {
		if got := window.Own(c.l); got != c.want {
			t.Errorf("P10.1: Own(%v) = %v", c.l, got)
		}
	}
}

// TestByCells: every pair of small windows of one space, and many longer lists of several.
func TestByCells(t *testing.T) {
	const most = 4
	var all []api.Window
	for v := range most {
		for p := range most {
			for n := range 3 {
				all = append(all, at(v, p, n))
			}
		}
	}
	for _, a := range all {
		for _, b := range all {
			check(t, list(a, b), most+1)
			if got := window.Meets(list(a), list(b)); got != met(list(a), list(b)) {
				t.Fatalf("P10.1: Meets(%v, %v) = %v", a, b, got)
			}
		}
	}
	r := rand.New(rand.NewSource(10))
	for range 2000 {
		l, o := some(r, 14), some(r, 14)
		check(t, l, 18)
		if got := window.Meets(l, o); got != met(l, o) {
			t.Fatalf("P10.1: Meets(%v, %v) = %v", l, o, got)
		}
	}
}

// TestThereAndBack: of windows that Own, what Map leads to leads back, and no two cells lie at one.
func TestThereAndBack(t *testing.T) {
	r := rand.New(rand.NewSource(11))
	found := 0
	for range 4000 {
		l := some(r, 40)
		if !window.Own(l) {
			continue
		}
		for space := range spaces {
			lies := map[int]bool{}
			for v := range 44 {
				p, ok := window.Map(l, space, v, 1)
				if !ok {
					continue
				}
				found++
				back, ok := window.Back(l, space, p[0].Physical)
				if !ok || back != v || lies[p[0].Physical] {
					t.Fatalf("P10.1: of %v: cell %d of space %d lies at %d, which leads back to %d, %v", l, v, space, p[0].Physical, back, ok)
				}
				lies[p[0].Physical] = true
			}
		}
	}
	if found < 1000 {
		t.Fatalf("the runs are of no use: %d cells", found)
	}
}

// TestWrongInList: a window that is not Right changes no answer, wherever it stands.
func TestWrongInList(t *testing.T) {
	kept := list(at(0, 100, 4), at(4, 50, 4))
	other := list(at(0, 104, 4))
	for _, w := range wrong {
		for i := range len(kept) + 1 {
			l := slices.Insert(slices.Clone(kept), i, w)
			want := []window.Piece{piece(1, 101, 3), piece(4, 50, 2)}
			if got, ok := window.Map(l, api.Inputs, 1, 5); !ok || !slices.Equal(got, want) {
				t.Errorf("P10.1: Map(%v, Inputs, 1, 5) = %v, %v", l, got, ok)
			}
			if got, ok := window.Back(l, api.Inputs, 51); got != 5 || !ok {
				t.Errorf("P10.1: Back(%v, Inputs, 51) = %d, %v", l, got, ok)
			}
			if got, ok := window.Back(l, api.Inputs, 1); got != 0 || ok {
				t.Errorf("P10.1: Back(%v, Inputs, 1) = %d, %v", l, got, ok)
			}
			if !window.Own(l) || window.Meets(l, other) || window.Meets(other, l) {
				t.Errorf("P10.1: Own, Meets of %v: %v, %v, %v", l, window.Own(l), window.Meets(l, other), window.Meets(other, l))
			}
		}
		for _, o := range wrong {
			if window.Meets(list(w), list(o)) || !window.Own(list(w, o)) || window.Meets(list(w), kept) || window.Meets(kept, list(w)) {
				t.Errorf("P10.1: Meets, Own of %v and %v", w, o)
			}
		}
		if got, ok := window.Map(list(w), w.Space, w.Virtual, 1); ok || len(got) != 0 {
			t.Errorf("P10.1: Map(%v, its own first cell) = %v, %v", w, got, ok)
		}
		if got, ok := window.Back(list(w), w.Space, w.Physical); ok || got != 0 {
			t.Errorf("P10.1: Back(%v, its own first cell) = %d, %v", w, got, ok)
		}
	}
}

// TestWild: none panics and all end, of numbers of any size.
func TestWild(t *testing.T) {
	l := list(at(0, 0, 512), at(65535, 511, 1), at(2, 0, 4))
	for _, a := range wild {
		for _, n := range wild {
			want, is := mapped(l, api.Inputs, a, n)
			if got, ok := window.Map(l, api.Inputs, a, n); ok != is || !slices.Equal(got, want) {
				t.Errorf("P10.1: Map(l, Inputs, %d, %d) = %v, %v, want %v, %v", a, n, got, ok, want, is)
			}
			if got, ok := window.Map(l, a, 0, n); a != api.Inputs && (ok || len(got) != 0) {
				t.Errorf("P10.1: Map(l, %d, 0, %d) = %v, %v", a, n, got, ok)
			}
			for _, p := range wild {
				w := at(a, p, n)
				in := rightly(w)
				if got, ok := window.Map(list(w), api.Inputs, a, n); ok != in || ok && !slices.Equal(got, []window.Piece{piece(a, p, n)}) || !ok && len(got) != 0 {
					t.Fatalf("P10.1: Map(%v, its own cells) = %v, %v", w, got, ok)
				}
				if got, ok := window.Back(list(w), api.Inputs, p); ok != in || ok && got != a || !ok && got != 0 {
					t.Fatalf("P10.1: Back(%v, its own first cell) = %v, %v", w, got, ok)
				}
				if window.Meets(list(w), list(w)) != in || window.Own(list(w, w)) == in || !window.Own(list(w)) {
					t.Fatalf("P10.1: Meets, Own of %v", w)
				}
			}
		}
		want, is := backed(l, api.Inputs, a)
		if got, ok := window.Back(l, api.Inputs, a); ok != is || got != want {
			t.Errorf("P10.1: Back(l, Inputs, %d) = %d, %v, want %d, %v", a, got, ok, want, is)
		}
		if got, ok := window.Back(l, a, 1); a != api.Inputs && (ok || got != 0) {
			t.Errorf("P10.1: Back(l, %d, 1) = %d, %v", a, got, ok)
		}
	}
}

// TestMany: many windows of a cell each, more than there are physical cells.
func TestMany(t *testing.T) {
	const n = 2048
	l := make([]api.Window, n)
	for i := range l {
		l[i] = at(n-1-i, i%api.Cells, 1)
	}
	got, ok := window.Map(l, api.Inputs, 0, n)
	if !ok || len(got) != n {
		t.Fatalf("P10.1: Map of %d windows: %d pieces, %v", n, len(got), ok)
	}
	for v, p := range got {
		if p != piece(v, (n-1-v)%api.Cells, 1) {
			t.Fatalf("P10.1: Map of %d windows: piece %d is %v", n, v, p)
		}
	}
	if v, ok := window.Back(l, api.Inputs, 0); v != n-1 || !ok {
		t.Errorf("P10.1: Back of %d windows = %d, %v", n, v, ok)
	}
	if window.Own(l) || !window.Own(l[:api.Cells]) || window.Own(l[:api.Cells+1]) {
		t.Errorf("P10.1: Own of %d windows", n)
	}
	if window.Meets(l[:5], l[5:10]) || !window.Meets(l[:5], l[5:api.Cells+1]) {
		t.Errorf("P10.1: Meets of %d windows", n)
	}
}

func TestNothingChanged(t *testing.T) {
	lists := [][]api.Window{nil, list(at(0, 0, 9)), list(at(4, 0, 4), at(0, 7, 5)), list(at(0, 0, 5), at(4, 2, 4), at(-1, 2, 2), win(api.Coils, 0, 0, 9))}
	for _, one := range lists {
		for _, two := range lists {
			a, b := roomy(one, at(7, 7, 7)), roomy(two, at(8, 8, 8))
			before, other := slices.Clone(whole(a)), slices.Clone(whole(b))
			window.Map(a, api.Inputs, 2, 5)
			window.Map(a, api.Inputs, 2, 500)
			window.Back(a, api.Inputs, 3)
			window.Own(a)
			window.Meets(a, b)
			if !slices.Equal(whole(a), before) || !slices.Equal(whole(b), other) {
				t.Errorf("R2: %v and %v became %v and %v", before, other, whole(a), whole(b))
			}
		}
	}
}

func TestRoomNotRead(t *testing.T) {
	l := list(at(0, 100, 3), at(3, 100, 3))
	short := l[:1]
	if got, ok := window.Map(short, api.Inputs, 0, 6); ok || len(got) != 0 {
		t.Errorf("R5: Map reads the room behind the list: %v, %v", got, ok)
	}
	if !window.Own(short) {
		t.Error("R5: Own reads the room behind the list")
	}
	none := l[:0]
	if got, ok := window.Back(none, api.Inputs, 100); ok || got != 0 {
		t.Errorf("R5: Back reads the room behind the list: %d, %v", got, ok)
	}
	if window.Meets(none, short) || window.Meets(short, none) {
		t.Error("R5: Meets reads the room behind a list")
	}
}

func TestAnswersAreNewMemory(t *testing.T) {
	l := roomy(list(at(0, 100, 3), at(3, 50, 9)), at(7, 7, 7))
	before := slices.Clone(whole(l))
	want := []window.Piece{piece(1, 101, 2), piece(3, 50, 2)}
	one, _ := window.Map(l, api.Inputs, 1, 4)
	two, _ := window.Map(l, api.Inputs, 1, 4)
	scribble(two, piece(9, 9, 9))
	if !slices.Equal(whole(l), before) || !slices.Equal(one, want) {
		t.Errorf("R2: Map's answer shares memory: %v, %v", whole(l), one)
	}
	scribble(l, at(1, 1, 1))
	if !slices.Equal(one, want) {
		t.Errorf("R2: Map's answer shares memory with what was handed in: %v", one)
	}
}

// TestNothing: nil and empty lists mean the same.
func TestNothing(t *testing.T) {
	l := list(at(0, 0, 9))
	for _, none := range [][]api.Window{nil, {}, l[:0]} {
		for _, n := range wild {
			if got, ok := window.Map(none, api.Inputs, n, 1); ok || len(got) != 0 {
				t.Errorf("P10.1: Map(nothing, Inputs, %d, 1) = %v, %v", n, got, ok)
			}
			if got, ok := window.Map(none, n, 0, 0); ok || len(got) != 0 {
				t.Errorf("P10.1: Map(nothing, %d, 0, 0) = %v, %v", n, got, ok)
			}
			if got, ok := window.Back(none, api.Inputs, n); ok || got != 0 {
				t.Errorf("P10.1: Back(nothing, Inputs, %d) = %d, %v", n, got, ok)
			}
		}
		if window.Meets(none, l) || window.Meets(l, none) || window.Meets(none, none) {
			t.Error("P10.1: Meets of nothing")
		}
		if !window.Own(none) {
			t.Error("P10.1: Own(nothing) = false")
		}
	}
}

// TestAsCover: of windows that are Right and of one space, the pieces are those of span.Cover.
func TestAsCover(t *testing.T) {
	r := rand.New(rand.NewSource(12))
	for range 5000 {
		l := make([]api.Window, r.Intn(8))
		spans := make([]span.Span, len(l))
		for i := range l {
			l[i] = at(r.Intn(20), r.Intn(400), 1+r.Intn(9))
			spans[i] = span.Span{At: l[i].Virtual, Count: l[i].Count}
		}
		s := span.Span{At: r.Intn(20), Count: 1 + r.Intn(12)}
		want, is := span.Cover(spans, s)
		got, ok := window.Map(l, api.Inputs, s.At, s.Count)
		same := slices.EqualFunc(got, want, func(p window.Piece, s span.Span) bool { return p.At == s.At && p.Count == s.Count })
		if ok != is || !same {
			t.Fatalf("P10.1: Map(%v, Inputs, %v) = %v, %v, want the pieces of %v, %v", l, s, got, ok, want, is)
		}
	}
}
