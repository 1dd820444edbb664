package span_test

import (
	"math"
	"math/big"
	"math/rand"
	"slices"
	"testing"

	"burgage/span"
)

// bound is the end that the spans go up to at most which the calls but Right take.
const bound = 1 << 31

func at(a, n int) span.Span { return span.Span{At: a, Count: n} }

// edges are numbers at which something may turn or wrap round.
var edges = []int{
	math.MinInt, math.MinInt + 1, math.MinInt / 2, -bound - 1, -bound, -2, -1, 0, 1, 2, 3,
	bound - 2, bound - 1, bound, bound + 1, 1 << 32, math.MaxInt / 2, math.MaxInt/2 + 1, math.MaxInt - 1, math.MaxInt,
}

// wrong are spans that no call but Right takes.
var wrong = []span.Span{
	{}, at(0, 0), at(5, 0), at(0, -1), at(5, -2), at(-1, 1), at(-1, 2), at(-5, 9), at(-1, -1),
	at(bound, 1), at(bound, 0), at(bound-1, 2), at(1, bound), at(0, bound+1), at(bound, bound),
	at(math.MaxInt, 1), at(1, math.MaxInt), at(0, math.MaxInt), at(math.MaxInt, math.MaxInt), at(math.MaxInt, math.MinInt),
	at(math.MinInt, 1), at(math.MinInt, math.MaxInt), at(math.MinInt, math.MinInt), at(0, math.MinInt),
	// These wrap round to an end of 0 to 2^31.
	at(math.MinInt, math.MinInt+5), at(-5, 10), at(10, -5),
}

// roomy answers a list with the spans of l and, behind its length, room filled with mark.
func roomy(l []span.Span, mark span.Span) []span.Span {
	all := slices.Concat(l, slices.Repeat([]span.Span{mark}, 8))
	return all[:len(l):len(all)]
}

// whole answers l with the room behind it.
func whole(l []span.Span) []span.Span { return l[:cap(l)] }

// scribble overwrites l and the room behind it.
func scribble(l []span.Span, mark span.Span) {
	for i := range whole(l) {
		whole(l)[i] = mark
	}
}

// has tells whether the cell c is one of s, which is small.
func has(s span.Span, c int) bool { return c >= s.At && c < s.At+s.Count }

// small answers every span of the first n cells.
func small(n int) []span.Span {
	var out []span.Span
	for a := range n {
		for c := 1; a+c <= n; c++ {
			out = append(out, at(a, c))
		}
	}
	return out
}

func TestRight(t *testing.T) {
	cases := []struct {
		s    span.Span
		most int
		want bool
	}{
		{at(0, 1), 1, true}, {at(0, 1), 2, true}, {at(0, 1), 0, false}, {at(0, 1), -1, false},
		{at(0, 5), 5, true}, {at(0, 6), 5, false}, {at(4, 1), 5, true}, {at(4, 2), 5, false}, {at(5, 1), 5, false}, {at(6, 1), 5, false},
		{at(0, 0), 5, false}, {at(3, 0), 5, false}, {at(5, 0), 5, false}, {at(3, -1), 5, false}, {at(-1, 1), 5, false}, {at(-1, 3), 5, false},
		{at(0, 0), 0, false}, {at(-2, 1), -1, false}, {at(-5, 3), -1, false},
		{at(0, 65536), 65536, true}, {at(1, 65536), 65536, false}, {at(65535, 1), 65536, true},
		{at(0, math.MaxInt), math.MaxInt, true}, {at(1, math.MaxInt), math.MaxInt, false}, {at(1, math.MaxInt-1), math.MaxInt, true},
		{at(math.MaxInt-1, 1), math.MaxInt, true}, {at(math.MaxInt, 1), math.MaxInt, false}, {at(math.MaxInt, math.MaxInt), math.MaxInt, false},
		{at(0, 1), math.MinInt, false}, {at(math.MaxInt, 1), math.MinInt, false}, {at(math.MinInt, math.MinInt), 0, false},
	}
	for _, c := range cases {
		if got := span.Right(c.s, c.most); got != c.want {
			t.Errorf("P7.1: Right(%v, %d) = %v, want %v", c.s, c.most, got, c.want)
		}
	}
}

// TestRightExactly: the end is reckoned with numbers that cannot wrap round.
func TestRightExactly(t *testing.T) {
	for _, a := range edges {
		for _, n := range edges {
			for _, most := range edges {
				behind := new(big.Int).Add(big.NewInt(int64(a)), big.NewInt(int64(n)))
				want := a >= 0 && n >= 1 && behind.Cmp(big.NewInt(int64(most))) <= 0
				if got := span.Right(at(a, n), most); got != want {
					t.Errorf("P7.1: Right(%v, %d) = %v, want %v", at(a, n), most, got, want)
				}
			}
		}
	}
}

func TestMeet(t *testing.T) {
	cases := []struct {
		a, b, want span.Span
		ok         bool
	}{
		{at(0, 4), at(2, 4), at(2, 2), true},
		{at(0, 9), at(2, 4), at(2, 4), true},
		{at(2, 4), at(2, 4), at(2, 4), true},
		{at(2, 4), at(2, 1), at(2, 1), true},
		{at(2, 4), at(5, 1), at(5, 1), true},
		{at(0, 2), at(2, 4), span.Span{}, false},
		{at(0, 2), at(3, 4), span.Span{}, false},
		{at(0, bound), at(bound-1, 1), at(bound-1, 1), true},
		{at(0, bound), at(0, bound), at(0, bound), true},
		{at(0, bound-1), at(bound-1, 1), span.Span{}, false},
	}
	for _, c := range cases {
		if got, ok := span.Meet(c.a, c.b); got != c.want || ok != c.ok {
			t.Errorf("P7.1: Meet(%v, %v) = %v, %v, want %v, %v", c.a, c.b, got, ok, c.want, c.ok)
		}
		if got, ok := span.Meet(c.b, c.a); got != c.want || ok != c.ok {
			t.Errorf("P7.1: Meet(%v, %v) = %v, %v, want %v, %v", c.b, c.a, got, ok, c.want, c.ok)
		}
	}
}

// TestCells: Meet and In of all small spans, held against their cells one by one.
func TestCells(t *testing.T) {
	const n = 8
	for _, a := range small(n) {
		for _, b := range small(n) {
			m, ok := span.Meet(a, b)
			in, some := true, false
			for c := range n {
				both := has(a, c) && has(b, c)
				some = some || both
				in = in && (!has(a, c) || has(b, c))
				if both != (ok && has(m, c)) {
					t.Errorf("P7.1: Meet(%v, %v) = %v, %v: cell %d", a, b, m, ok, c)
				}
			}
			if ok != some || !ok && m != (span.Span{}) || ok && !span.Right(m, n) {
				t.Errorf("P7.1: Meet(%v, %v) = %v, %v", a, b, m, ok)
			}
			if got := span.In(a, b); got != in {
				t.Errorf("P7.1: In(%v, %v) = %v, want %v", a, b, got, in)
			}
		}
	}
}

func TestIn(t *testing.T) {
	cases := []struct {
		a, b span.Span
		want bool
	}{
		{at(2, 2), at(0, 9), true}, {at(0, 9), at(2, 2), false},
		{at(0, 2), at(0, 9), true}, {at(7, 2), at(0, 9), true}, {at(7, 3), at(0, 9), false}, {at(1, 2), at(2, 9), false},
		{at(0, 1), at(1, 1), false}, {at(1, 1), at(0, 1), false},
		{at(bound-1, 1), at(0, bound), true}, {at(0, bound), at(0, bound), true}, {at(0, bound), at(0, bound-1), false},
	}
	for _, c := range cases {
		if got := span.In(c.a, c.b); got != c.want {
			t.Errorf("P7.1: In(%v, %v) = %v, want %v", c.a, c.b, got, c.want)
		}
	}
}

func TestCover(t *testing.T) {
	cases := []struct {
		l    []span.Span
		s    span.Span
		want []span.Span
	}{
		{[]span.Span{at(0, 9)}, at(2, 3), []span.Span{at(2, 3)}},
		{[]span.Span{at(2, 3)}, at(2, 3), []span.Span{at(2, 3)}},
		{[]span.Span{at(2, 3), at(5, 1)}, at(2, 3), []span.Span{at(2, 3)}},
		{[]span.Span{at(0, 3), at(3, 3)}, at(1, 4), []span.Span{at(1, 2), at(3, 2)}},
		{[]span.Span{at(3, 3), at(0, 3)}, at(1, 4), []span.Span{at(1, 2), at(3, 2)}},
		// The first one of the list that has the cell, though a later one goes farther.
		{[]span.Span{at(0, 2), at(0, 9)}, at(0, 4), []span.Span{at(0, 2), at(2, 2)}},
		{[]span.Span{at(0, 9), at(0, 2)}, at(0, 4), []span.Span{at(0, 4)}},
		// One ahead in the list that begins later does not cut a piece short.
		{[]span.Span{at(2, 1), at(0, 9)}, at(0, 4), []span.Span{at(0, 4)}},
		{[]span.Span{at(2, 1), at(0, 9)}, at(2, 4), []span.Span{at(2, 1), at(3, 3)}},
		{[]span.Span{at(4, 4), at(0, 5)}, at(2, 5), []span.Span{at(2, 3), at(5, 2)}},
		{[]span.Span{at(3, 1), at(3, 1), at(4, 1)}, at(3, 2), []span.Span{at(3, 1), at(4, 1)}},
		{[]span.Span{at(3, 1), at(2, 1), at(1, 1), at(0, 1)}, at(0, 4), []span.Span{at(0, 1), at(1, 1), at(2, 1), at(3, 1)}},
		{[]span.Span{at(0, bound)}, at(0, bound), []span.Span{at(0, bound)}},
		{[]span.Span{at(bound-1, 1), at(0, bound-1)}, at(5, bound-5), []span.Span{at(5, bound-6), at(bound-1, 1)}},
	}
	for _, c := range cases {
		if got, ok := span.Cover(c.l, c.s); !ok || !slices.Equal(got, c.want) {
			t.Errorf("P7.1: Cover(%v, %v) = %v, %v, want %v, true", c.l, c.s, got, ok, c.want)
		}
	}
}

func TestCoverOfNone(t *testing.T) {
	cases := []struct {
		l []span.Span
		s span.Span
	}{
		{nil, at(0, 1)},
		{[]span.Span{}, at(0, 1)},
		{[]span.Span{at(1, 3)}, at(0, 4)},
		{[]span.Span{at(0, 3)}, at(0, 4)},
		{[]span.Span{at(0, 3)}, at(3, 1)},
		{[]span.Span{at(0, 2), at(3, 2)}, at(1, 3)},
		{[]span.Span{at(3, 2), at(0, 2)}, at(1, 3)},
		{[]span.Span{at(0, bound-1)}, at(0, bound)},
	}
	for _, c := range cases {
		if got, ok := span.Cover(c.l, c.s); ok || len(got) != 0 {
			t.Errorf("P7.1: Cover(%v, %v) = %v, %v, want none, false", c.l, c.s, got, ok)
		}
	}
}

// byCells works Cover out another way: each cell's span by itself, then the cells of one piece put together.
func byCells(l []span.Span, s span.Span) ([]span.Span, bool) {
	var out []span.Span
	now := -1
	for c := s.At; c < s.At+s.Count; c++ {
		if now >= 0 && has(l[now], c) {
			out[len(out)-1].Count++
			continue
		}
		now = slices.IndexFunc(l, func(x span.Span) bool { return has(x, c) })
		if now < 0 {
			return nil, false
		}
		out = append(out, at(c, 1))
	}
	return out, true
}

// TestCoverByCells: every list of up to three small spans, and many greater ones.
func TestCoverByCells(t *testing.T) {
	check := func(l []span.Span, s span.Span) {
		want, is := byCells(l, s)
		if got, ok := span.Cover(l, s); ok != is || !slices.Equal(got, want) {
			t.Fatalf("P7.1: Cover(%v, %v) = %v, %v, want %v, %v", l, s, got, ok, want, is)
		}
	}
	all := small(5)
	for _, s := range all {
		for _, a := range all {
			check([]span.Span{a}, s)
			for _, b := range all {
				check([]span.Span{a, b}, s)
				for _, c := range all {
					check([]span.Span{a, b, c}, s)
				}
			}
		}
	}
	r := rand.New(rand.NewSource(7))
	for range 20000 {
		l := make([]span.Span, r.Intn(12))
		for i := range l {
			l[i] = at(r.Intn(40), 1+r.Intn(12))
		}
		check(l, at(r.Intn(40), 1+r.Intn(20)))
	}
}

func TestWrongSpans(t *testing.T) {
	wide := at(0, bound)
	for _, s := range wrong {
		if span.Right(s, bound) {
			t.Errorf("P7.1: Right(%v, 2^31)", s)
		}
		for _, o := range append([]span.Span{wide, at(0, 1), at(5, 4)}, wrong...) {
			if m, ok := span.Meet(s, o); ok || m != (span.Span{}) {
				t.Errorf("P7.1: Meet(%v, %v) = %v, %v", s, o, m, ok)
			}
			if m, ok := span.Meet(o, s); ok || m != (span.Span{}) {
				t.Errorf("P7.1: Meet(%v, %v) = %v, %v", o, s, m, ok)
			}
			if span.In(s, o) || span.In(o, s) {
				t.Errorf("P7.1: In(%v, %v) = %v, and turned about %v", s, o, span.In(s, o), span.In(o, s))
			}
			if got, ok := span.Cover([]span.Span{o}, s); ok || len(got) != 0 {
				t.Errorf("P7.1: Cover(%v, %v) = %v, %v", o, s, got, ok)
			}
		}
		if got, ok := span.Cover(nil, s); ok || len(got) != 0 {
			t.Errorf("P7.1: Cover(nothing, %v) = %v, %v", s, got, ok)
		}
	}
}

// TestWrongInList: one of the list that is not Right, wherever it stands, though it is not asked for any cell.
func TestWrongInList(t *testing.T) {
	right := []span.Span{at(0, 9), at(9, 9)}
	for _, s := range wrong {
		for i := range len(right) + 1 {
			l := slices.Insert(slices.Clone(right), i, s)
			if got, ok := span.Cover(l, at(3, 10)); ok || len(got) != 0 {
				t.Errorf("P7.1: Cover(%v, (3, 10)) = %v, %v, want none, false", l, got, ok)
			}
			if got, ok := span.Cover(l, at(3, 1)); ok || len(got) != 0 {
				t.Errorf("P7.1: Cover(%v, (3, 1)) = %v, %v, want none, false", l, got, ok)
			}
		}
	}
}

// TestEdges: none panics and all end, and what is answered is Right.
func TestEdges(t *testing.T) {
	var all []span.Span
	for _, a := range edges {
		for _, n := range edges {
			all = append(all, at(a, n))
		}
	}
	for _, a := range all {
		for _, b := range all {
			taken := span.Right(a, bound) && span.Right(b, bound)
			m, ok := span.Meet(a, b)
			in := span.In(a, b)
			got, covered := span.Cover([]span.Span{b}, a)
			if !taken && (ok || in || covered) {
				t.Fatalf("P7.1: Meet, In, Cover of %v and %v = %v, %v, %v", a, b, ok, in, covered)
			}
			if ok && !span.Right(m, bound) || !ok && m != (span.Span{}) {
				t.Fatalf("P7.1: Meet(%v, %v) = %v, %v", a, b, m, ok)
			}
			if covered != in || covered && !slices.Equal(got, []span.Span{a}) || !covered && len(got) != 0 {
				t.Fatalf("P7.1: Cover(%v, %v) = %v, %v; In = %v", b, a, got, covered, in)
			}
		}
	}
}

func TestNothingChanged(t *testing.T) {
	mark := at(7, 7)
	lists := [][]span.Span{nil, {at(0, 9)}, {at(4, 4), at(0, 5)}, {at(0, 5), at(4, 4), at(-1, 2)}}
	for _, list := range lists {
		l := roomy(list, mark)
		before := slices.Clone(whole(l))
		span.Cover(l, at(2, 5))
		span.Cover(l, at(2, 500))
		if !slices.Equal(whole(l), before) {
			t.Errorf("R2: %v became %v", before, whole(l))
		}
	}
}

func TestRoomNotRead(t *testing.T) {
	l := []span.Span{at(0, 3), at(3, 3)}
	if got, ok := span.Cover(l[:1], at(0, 6)); ok || len(got) != 0 {
		t.Errorf("R5: the room behind the list is read: %v, %v", got, ok)
	}
	// A span in the room that is not Right refuses nothing.
	want := []span.Span{at(0, 3), at(3, 1)}
	if got, ok := span.Cover(roomy(l, at(-1, 0)), at(0, 4)); !ok || !slices.Equal(got, want) {
		t.Errorf("R5: the room behind the list is read: %v, %v", got, ok)
	}
}

func TestAnswersAreNewMemory(t *testing.T) {
	mark := at(7, 7)
	for _, list := range [][]span.Span{{at(2, 5)}, {at(2, 3), at(5, 2)}, {at(2, 3), at(5, 1), at(6, 1)}} {
		l := roomy(list, mark)
		before := slices.Clone(whole(l))
		one, _ := span.Cover(l, at(2, 5))
		two, _ := span.Cover(l, at(2, 5))
		scribble(two, at(1, 1))
		if !slices.Equal(whole(l), before) || !slices.Equal(one, list) {
			t.Errorf("R2: Cover's answer shares memory: %v, %v", whole(l), one)
		}
		scribble(l, at(3, 3))
		if !slices.Equal(one, list) {
			t.Errorf("R2: Cover's answer shares memory with what was handed in: %v", one)
		}
	}
}

// TestExamples: the chapter's runs and examples.
func TestExamples(t *testing.T) {
	if got, ok := span.Meet(at(0, 4), at(2, 4)); got != at(2, 2) || !ok {
		t.Errorf("P7.1: Meet((0, 4), (2, 4)) = %v, %v", got, ok)
	}
	for _, s := range append(small(6), at(0, bound), at(bound-1, 1), at(1, bound-1)) {
		if got, ok := span.Cover(nil, s); ok || len(got) != 0 {
			t.Errorf("P7.1: Cover(nothing, %v) = %v, %v", s, got, ok)
		}
		if !span.In(s, s) {
			t.Errorf("P7.1: In(%v, %v) = false", s, s)
		}
	}
}
