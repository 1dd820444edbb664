package table_test

import (
	"cmp"
	"math"
	"math/big"
	"math/rand"
	"slices"
	"testing"

	"burgage/api"
	"burgage/table"
)

// nobody is where it is of what is at no tenant.
const nobody = -1

func win(space, virtual, physical, count int) api.Window {
	return api.Window{Space: space, Virtual: virtual, Physical: physical, Count: count}
}

func slot(at, length int) api.Slot { return api.Slot{At: at, Len: length} }

func tenant(unit int, windows []api.Window, slots ...api.Slot) api.Tenant {
	return api.Tenant{Unit: unit, Functions: 1<<3 | 1<<6, Queue: 3, Windows: windows, Slots: slots}
}

// made is a table of three tenants that may be; their slots leave ticks free between them.
func made() api.Table {
	return api.Table{Frame: 900, Tenants: []api.Tenant{
		tenant(5, []api.Window{win(api.Holdings, 0, 0, 10), win(api.Coils, 0, 0, 10), win(api.Holdings, 10, 20, 10)}, slot(400, 100), slot(100, 72)),
		tenant(5, []api.Window{win(api.Holdings, 0, 10, 10)}, slot(200, 80)),
		tenant(247, []api.Window{win(api.Inputs, 7, 9, 3), win(api.Coils, 65526, 502, 10)}, slot(600, 72), slot(800, 100), slot(0, 72)),
	}}
}

// full is a table that has as much as a table may have, and whose slots fill its frame.
func full() api.Table {
	t := api.Table{Frame: api.MaxFrame}
	for i := range api.MaxTenants {
		x := api.Tenant{Unit: 247, Functions: math.MaxUint32, Queue: api.MaxQueue}
		for k := range api.MaxWindows {
			x.Windows = append(x.Windows, win(k%4, k*10, (k*api.MaxTenants+i)*20, 20-10*(k/4)))
		}
		for k := range api.MaxSlots {
			x.Slots = append(x.Slots, slot((k*api.MaxTenants+i)*166, 166))
		}
		t.Tenants = append(t.Tenants, x)
	}
	t.Tenants[3].Slots[2].Len = api.MaxFrame - 11*166
	return t
}

// wild are numbers at which something may turn or wrap round.
var wild = []int{
	math.MinInt, math.MinInt + 1, math.MinInt / 2, -1 << 32, -1 << 31, -65536, -72, -1, 0, 1, 2, 3, 4, 6, 7, 71, 72, 73, 246, 247, 248, 255, 256,
	511, 512, 827, 828, 829, 899, 900, 901, 1927, 1928, 1929, 1999, 2000, 2001, 65535, 65536,
	1<<31 - 1, 1 << 31, 1 << 32, 1<<32 + 1, 1<<32 + 72, math.MaxInt/2 + 1, math.MaxInt - 72, math.MaxInt - 1, math.MaxInt,
}

// wrongWindows are windows none of which is Right.
var wrongWindows = []api.Window{
	{}, win(4, 0, 0, 1), win(-1, 0, 0, 1), win(math.MaxInt, 0, 0, 1), win(math.MinInt, 0, 0, 1),
	win(2, 0, 0, 0), win(2, 0, 0, -1), win(2, 0, 0, math.MaxInt), win(2, 0, 0, math.MinInt), win(2, 0, 0, 513),
	win(2, -1, 0, 2), win(2, 0, -1, 2), win(2, 65536, 0, 1), win(2, 65535, 0, 2), win(2, 0, 512, 1), win(2, 0, 511, 2),
	win(2, math.MaxInt, 0, 1), win(2, 0, math.MaxInt, 1), win(2, math.MinInt, 0, 1), win(2, 0, math.MinInt, 1), win(2, math.MaxInt, 0, math.MaxInt),
}

// roomy answers a list with what is in l and, behind its length, room filled with mark.
func roomy[T any](l []T, mark T) []T {
	all := slices.Concat(l, slices.Repeat([]T{mark}, 8))
	return all[:len(l):len(all)]
}

// whole answers l with the room behind it.
func whole[T any](l []T) []T { return l[:cap(l)] }

// scribble overwrites l and the room behind it.
func scribble[T any](l []T, mark T) {
	for i := range whole(l) {
		whole(l)[i] = mark
	}
}

// other is what spare room is filled with: a tenant that no table here has.
func other() api.Tenant {
	return tenant(9, []api.Window{win(1, 1, 1, 1)}, slot(1, 1))
}

// roomyTable answers t with marked room behind each list.
func roomyTable(t api.Table) api.Table {
	out := api.Table{Frame: t.Frame}
	for _, x := range t.Tenants {
		x.Windows, x.Slots = roomy(x.Windows, win(1, 1, 1, 1)), roomy(x.Slots, slot(1, 1))
		out.Tenants = append(out.Tenants, x)
	}
	out.Tenants = roomy(out.Tenants, other())
	return out
}

// deep answers all that t reaches, the room behind its lists too, as numbers.
func deep(t api.Table) []int {
	out := []int{t.Frame, len(t.Tenants), cap(t.Tenants)}
	for _, x := range whole(t.Tenants) {
		out = append(out, x.Unit, int(x.Functions), x.Queue, len(x.Windows), cap(x.Windows), len(x.Slots), cap(x.Slots))
		for _, w := range whole(x.Windows) {
			out = append(out, w.Space, w.Virtual, w.Physical, w.Count)
		}
		for _, s := range whole(x.Slots) {
			out = append(out, s.At, s.Len)
		}
	}
	return out
}

// plain answers what t has, without the room behind its lists, as numbers.
func plain(t api.Table) []int {
	out := []int{t.Frame, len(t.Tenants)}
	for _, x := range t.Tenants {
		out = append(out, x.Unit, int(x.Functions), x.Queue, len(x.Windows))
		for _, w := range x.Windows {
			out = append(out, w.Space, w.Virtual, w.Physical, w.Count)
		}
		out = append(out, len(x.Slots))
		for _, s := range x.Slots {
			out = append(out, s.At, s.Len)
		}
	}
	return out
}

// scribbleTable overwrites all that t reaches, the room behind its lists too.
func scribbleTable(t api.Table) {
	for _, x := range whole(t.Tenants) {
		scribble(x.Windows, win(77, 77, 77, 77))
		scribble(x.Slots, slot(77, 77))
	}
	scribble(t.Tenants, api.Tenant{Unit: 77})
}

// ends tells by numbers that cannot wrap round whether (at, n) is of 0 to most.
func ends(at, n, most int) bool {
	behind := new(big.Int).Add(big.NewInt(int64(at)), big.NewInt(int64(n)))
	return at >= 0 && behind.Cmp(big.NewInt(int64(most))) <= 0
}

func rightly(w api.Window) bool {
	return w.Space >= 0 && w.Space <= 3 && w.Count > 0 && ends(w.Virtual, w.Count, 65536) && ends(w.Physical, w.Count, 512)
}

// cell of a space, a virtual or a physical one.
type cell struct {
	virtual   bool
	space, at int
}

// cells answers how many of l have each cell.
func cells(l []api.Window) map[cell]int {
	out := map[cell]int{}
	for _, w := range l {
		for k := range w.Count {
			out[cell{true, w.Space, w.Virtual + k}]++
			out[cell{false, w.Space, w.Physical + k}]++
		}
	}
	return out
}

// fault is one thing for which a table may not be; the lesser of two by at and rank is named first.
type fault struct {
	at, rank int
	why      api.Errno
}

// judged works Where out another way: all faults of all tenants, of which the first one is taken.
func judged(t api.Table) (api.Errno, int) {
	var all []fault
	note := func(at, rank int, why api.Errno, is bool) {
		if is {
			all = append(all, fault{at, rank, why})
		}
	}
	note(-1, 0, api.ErrFrame, t.Frame < 1 || t.Frame > 2000)
	note(-1, 1, api.ErrMany, len(t.Tenants) < 1 || len(t.Tenants) > 4)
	for i, x := range t.Tenants {
		note(i, 0, api.ErrUnit, x.Unit < 1 || x.Unit > 247)
		note(i, 1, api.ErrQueue, x.Queue < 1 || x.Queue > 6)
		note(i, 2, api.ErrMany, len(x.Windows) > 6 || len(x.Slots) < 1 || len(x.Slots) > 3)
		wrong := slices.ContainsFunc(x.Windows, func(w api.Window) bool { return !rightly(w) })
		note(i, 3, api.ErrWindow, wrong || twice(cells(x.Windows)))
		short := slices.ContainsFunc(x.Slots, func(s api.Slot) bool { return s.Len < 72 || !ends(s.At, s.Len, t.Frame) })
		note(i, 4, api.ErrSlot, short)
	}
	if len(all) == 0 {
		all = crossed(t)
	} else if first := slices.MinFunc(all, sooner); first.at > 0 {
		// Those ahead of the first fault are right each by itself, so it can be asked what they share.
		all = append(crossed(api.Table{Frame: t.Frame, Tenants: t.Tenants[:first.at]}), first)
	}
	if len(all) == 0 {
		return api.OK, nobody
	}
	first := slices.MinFunc(all, sooner)
	return first.why, first.at
}

func sooner(a, b fault) int { return cmp.Or(cmp.Compare(a.at, b.at), cmp.Compare(a.rank, b.rank)) }

func twice(m map[cell]int) bool {
	for _, n := range m {
		if n > 1 {
			return true
		}
	}
	return false
}

// crossed answers what is shared in t, of tenants each of which is right by itself: cells and ticks are marked with who had them first.
func crossed(t api.Table) []fault {
	var all []fault
	lies := map[cell]int{}
	taken := make([]bool, t.Frame)
	for i, x := range t.Tenants {
		for c := range cells(x.Windows) {
			if who, is := lies[c]; is && who != i && !c.virtual {
				all = append(all, fault{i, 5, api.ErrShare})
			}
		}
		for c := range cells(x.Windows) {
			lies[c] = i
		}
		for _, s := range x.Slots {
			for k := s.At; k < s.At+s.Len; k++ {
				if taken[k] {
					all = append(all, fault{i, 6, api.ErrSlot})
				}
				taken[k] = true
			}
		}
	}
	return all
}

// hold holds Where and Right of t against what they must be.
func hold(t *testing.T, x api.Table, why api.Errno, at int, what string) {
	t.Helper()
	if got, where := table.Where(x); got != why || where != at {
		t.Errorf("P11.1: Where, %s: %d, %d, want %d, %d", what, int(got), where, int(why), at)
	}
	if table.Right(x) != (why == api.OK) {
		t.Errorf("P11.1: Right, %s: %v", what, table.Right(x))
	}
}

func TestWhereOfWhatMayBe(t *testing.T) {
	hold(t, made(), api.OK, nobody, "a table that may be")
	hold(t, full(), api.OK, nobody, "a table that is full")
	least := api.Table{Frame: 72, Tenants: []api.Tenant{{Unit: 1, Queue: 1, Slots: []api.Slot{slot(0, 72)}}}}
	hold(t, least, api.OK, nobody, "the least table")
	hold(t, api.Table{}, api.ErrFrame, nobody, "a zero table")
	// Example 1.
	one := []api.Window{win(api.Holdings, 0, 0, 10)}
	two := api.Table{Frame: 200, Tenants: []api.Tenant{tenant(1, one, slot(0, 72)), tenant(2, one, slot(72, 72))}}
	hold(t, two, api.ErrShare, 1, "two tenants of one window")
}

func TestWhereFrame(t *testing.T) {
	for _, n := range wild {
		x := made()
		x.Frame = n
		switch {
		case n < 1 || n > 2000:
			hold(t, x, api.ErrFrame, nobody, "frame "+big.NewInt(int64(n)).String())
		case n < 500:
			hold(t, x, api.ErrSlot, 0, "a frame that ends in a slot of the first")
		case n < 900:
			hold(t, x, api.ErrSlot, 2, "a frame that ends in a slot of the last")
		default:
			hold(t, x, api.OK, nobody, "frame "+big.NewInt(int64(n)).String())
		}
		why, _ := judged(api.Table{Frame: n})
		hold(t, api.Table{Frame: n}, why, nobody, "no tenants")
	}
}

func TestWhereTenants(t *testing.T) {
	for n := range api.MaxTenants + 3 {
		x := api.Table{Frame: 900}
		for i := range n {
			x.Tenants = append(x.Tenants, tenant(1+i, nil, slot(100*i, 100)))
		}
		want := api.OK
		if n < 1 || n > 4 {
			want = api.ErrMany
		}
		hold(t, x, want, nobody, "so many tenants: "+string(rune('0'+n)))
	}
	hold(t, api.Table{Frame: 1, Tenants: make([]api.Tenant, 5)}, api.ErrMany, nobody, "five zero tenants")
	hold(t, api.Table{Frame: 1, Tenants: make([]api.Tenant, 1<<16)}, api.ErrMany, nobody, "many zero tenants")
	hold(t, api.Table{Frame: 1, Tenants: make([]api.Tenant, 4)}, api.ErrUnit, 0, "four zero tenants")
	hold(t, api.Table{Frame: 0, Tenants: make([]api.Tenant, 5)}, api.ErrFrame, nobody, "no frame, too many tenants")
	hold(t, api.Table{Frame: 1, Tenants: []api.Tenant{}}, api.ErrMany, nobody, "an empty list of tenants")
}

// TestWhereNumbers: units, queues and functions, at each tenant.
func TestWhereNumbers(t *testing.T) {
	for i := range made().Tenants {
		for _, n := range wild {
			x := made()
			x.Tenants[i].Unit = n
			if n < 1 || n > 247 {
				hold(t, x, api.ErrUnit, i, "unit "+big.NewInt(int64(n)).String())
			} else {
				hold(t, x, api.OK, nobody, "unit "+big.NewInt(int64(n)).String())
			}
			x = made()
			x.Tenants[i].Queue = n
			if n < 1 || n > 6 {
				hold(t, x, api.ErrQueue, i, "queue "+big.NewInt(int64(n)).String())
			} else {
				hold(t, x, api.OK, nobody, "queue "+big.NewInt(int64(n)).String())
			}
			x = made()
			x.Tenants[i].Functions = uint32(n)
			hold(t, x, api.OK, nobody, "any functions")
		}
	}
}

func TestWhereHowMany(t *testing.T) {
	for i := range api.MaxTenants {
		for n := range 9 {
			x := full()
			x.Tenants[i].Windows = nil
			for k := range n {
				x.Tenants[i].Windows = append(x.Tenants[i].Windows, win(api.Discretes, k, 511-k, 1))
			}
			if n > 6 {
				hold(t, x, api.ErrMany, i, "too many windows")
			} else {
				hold(t, x, api.OK, nobody, "windows enough")
			}
		}
		for _, n := range []int{0, 1, 2, 3, 4, 5, 1000} {
			x := made()
			x.Frame = 2000
			x.Tenants = append(x.Tenants, tenant(1, nil, slot(1900, 72)))
			x.Tenants[i].Slots = nil
			for k := range n {
				x.Tenants[i].Slots = append(x.Tenants[i].Slots, slot(1000+72*k, 72))
			}
			if n < 1 || n > 3 {
				hold(t, x, api.ErrMany, i, "no slots, or too many")
			} else {
				hold(t, x, api.OK, nobody, "slots enough")
			}
		}
		x := full()
		x.Tenants[i].Windows = make([]api.Window, 1<<16)
		hold(t, x, api.ErrMany, i, "very many windows")
		x = full()
		x.Tenants[i].Slots = make([]api.Slot, 1<<16)
		hold(t, x, api.ErrMany, i, "very many slots")
		x = full()
		x.Tenants[i].Windows, x.Tenants[i].Slots = nil, nil
		hold(t, x, api.ErrMany, i, "no windows and no slots")
	}
}

func TestWhereWindows(t *testing.T) {
	kept := []api.Window{win(api.Inputs, 100, 100, 10), win(api.Inputs, 110, 110, 10), win(api.Discretes, 100, 100, 10)}
	for i := range made().Tenants {
		// Cells of a space that no other tenant of this table has.
		x := made()
		x.Tenants[i].Windows = kept
		hold(t, x, api.OK, nobody, "windows side by side")
		for k := range len(kept) + 1 {
			for _, w := range wrongWindows {
				x := made()
				x.Tenants[i].Windows = slices.Insert(slices.Clone(kept), k, w)
				hold(t, x, api.ErrWindow, i, "a window that is not right")
			}
			for _, c := range []struct {
				w   api.Window
				why api.Errno
			}{
				{win(api.Inputs, 119, 200, 1), api.ErrWindow}, {win(api.Inputs, 120, 200, 1), api.OK},
				{win(api.Inputs, 99, 200, 2), api.ErrWindow}, {win(api.Inputs, 99, 200, 1), api.OK},
				{win(api.Inputs, 300, 119, 9), api.ErrWindow}, {win(api.Inputs, 300, 120, 9), api.OK},
				{win(api.Inputs, 300, 99, 2), api.ErrWindow}, {win(api.Inputs, 300, 99, 1), api.OK},
				{win(api.Inputs, 0, 0, 512), api.ErrWindow}, {kept[1], api.ErrWindow}, {kept[2], api.ErrWindow},
				{win(api.Coils, 100, 200, 10), api.OK}, {win(api.Holdings, 100, 100, 10), api.OK}, {win(api.Discretes, 110, 110, 10), api.OK},
				{win(api.Inputs, 65535, 511, 1), api.OK},
			} {
				x := made()
				x.Tenants[i].Windows = slices.Insert(slices.Clone(kept), k, c.w)
				at := i
				if c.why == api.OK {
					at = nobody
				}
				hold(t, x, c.why, at, "a window more, whose cells its own have, or just not")
			}
		}
	}
}

// TestWhereSlots: each slot by itself, by numbers of any size.
func TestWhereSlots(t *testing.T) {
	for _, frame := range []int{1, 71, 72, 73, 100, 900, 2000} {
		for _, at := range wild {
			for _, n := range wild {
				x := api.Table{Frame: frame, Tenants: []api.Tenant{tenant(1, nil, slot(at, n))}}
				if n >= 72 && ends(at, n, frame) {
					hold(t, x, api.OK, nobody, "a slot of the frame")
				} else {
					hold(t, x, api.ErrSlot, 0, "a slot that is short, or not of the frame")
				}
			}
		}
	}
	for i, y := range made().Tenants {
		for k := range y.Slots {
			for _, s := range []api.Slot{{}, slot(0, 71), slot(-1, 72), slot(829, 72), slot(828, 73), slot(300, 0), slot(300, -72), slot(math.MaxInt, 72), slot(math.MaxInt-71, math.MaxInt), slot(math.MinInt, math.MinInt), slot(900, 72)} {
				x := made()
				x.Tenants[i].Slots[k] = s
				hold(t, x, api.ErrSlot, i, "a slot that is short, or not of the frame, at any place")
			}
		}
	}
}

// TestWhereShare: two tenants of four have cells in common, or just not.
func TestWhereShare(t *testing.T) {
	four := func() api.Table {
		x := api.Table{Frame: 900}
		for i := range 4 {
			x.Tenants = append(x.Tenants, tenant(1, []api.Window{win(api.Coils, 0, 50*i, 10), win(api.Inputs, 0, 50*i, 10)}, slot(100*i, 72)))
		}
		return x
	}
	hold(t, four(), api.OK, nobody, "virtual cells that all have")
	for i := range 4 {
		for k := range 4 {
			if i == k {
				continue
			}
			for _, c := range []struct {
				w      api.Window
				shared bool
			}{
				{win(api.Inputs, 20, 50*i, 10), true}, {win(api.Inputs, 20, 50*i+9, 10), true}, {win(api.Inputs, 20, 50*i+10, 10), false},
				{win(api.Inputs, 20, 50*i+20, 1), false}, {win(api.Inputs, 20, 50*i+5, 1), true}, {win(api.Coils, 20, 50*i+9, 1), true},
				{win(api.Holdings, 20, 50*i, 10), false}, {win(api.Discretes, 0, 50*i, 10), false},
			} {
				for place := range 3 {
					x := four()
					x.Tenants[k].Windows = slices.Insert(x.Tenants[k].Windows, place, c.w)
					if c.shared {
						hold(t, x, api.ErrShare, max(i, k), "a cell of two tenants")
					} else {
						hold(t, x, api.OK, nobody, "no cell of two tenants")
					}
				}
			}
		}
	}
}

// TestWhereSlotsMeet: two slots, of one tenant or of two, have a tick in common, or just not.
func TestWhereSlotsMeet(t *testing.T) {
	for i := range made().Tenants {
		for k, y := range made().Tenants {
			for _, o := range y.Slots {
				for _, c := range []struct {
					s   api.Slot
					met bool
				}{
					{o, true}, {slot(o.At+o.Len-1, 72), true}, {slot(max(o.At-71, 0), 72), true}, {slot(o.At+1, 72), true}, {slot(0, 900), true},
					{slot(o.At+o.Len, 72), false}, {slot(o.At-72, 72), false},
				} {
					if !ends(c.s.At, c.s.Len, 900) {
						continue
					}
					x := made()
					x.Tenants[i].Slots = []api.Slot{c.s}
					if i == k {
						x.Tenants[i].Slots = []api.Slot{o, c.s}
					}
					why, at := judged(x)
					if c.met && why == api.OK {
						t.Fatalf("the model is of no use: %v", x)
					}
					hold(t, x, why, at, "a slot on, or beside, another one")
				}
			}
		}
	}
	// The first of one's own and the last, with one between.
	x := api.Table{Frame: 900, Tenants: []api.Tenant{tenant(1, nil, slot(0, 100), slot(200, 100), slot(99, 72))}}
	hold(t, x, api.ErrSlot, 0, "the third slot on the first")
	x.Tenants[0].Slots[2].At = 100
	hold(t, x, api.OK, nobody, "slots side by side")
	x.Tenants[0].Slots[2].At = 129
	hold(t, x, api.ErrSlot, 0, "the third slot on the second")
	// It is the later of two at whom it is.
	x = api.Table{Frame: 900, Tenants: []api.Tenant{tenant(1, nil, slot(0, 100)), tenant(1, nil, slot(200, 100)), tenant(1, nil, slot(400, 100)), tenant(1, nil, slot(600, 100))}}
	hold(t, x, api.OK, nobody, "four slots")
	for i := range 4 {
		for k := range i {
			y := table.Copy(x)
			y.Tenants[k].Slots = append(y.Tenants[k].Slots, slot(y.Tenants[i].Slots[0].At+99, 72))
			hold(t, y, api.ErrSlot, i, "a slot of one ahead")
			y = table.Copy(x)
			y.Tenants[i].Slots = append(y.Tenants[i].Slots, slot(y.Tenants[k].Slots[0].At+99, 72))
			hold(t, y, api.ErrSlot, i, "a slot of one behind")
		}
	}
}

// harm does to tenant i of t what that refusal is for.
type harm struct {
	why api.Errno
	do  func(t *api.Table, i int)
}

// harms are what may be wrong at a tenant of full that is not the first one, in the order in which the chapter names it.
func harms() []harm {
	return []harm{
		{api.ErrUnit, func(t *api.Table, i int) { t.Tenants[i].Unit = 0 }},
		{api.ErrQueue, func(t *api.Table, i int) { t.Tenants[i].Queue = 7 }},
		{api.ErrMany, func(t *api.Table, i int) { t.Tenants[i].Windows = append(t.Tenants[i].Windows, api.Window{}) }},
		{api.ErrWindow, func(t *api.Table, i int) { t.Tenants[i].Windows[5].Count = 0 }},
		{api.ErrSlot, func(t *api.Table, i int) { t.Tenants[i].Slots[1].Len = 71 }},
		{api.ErrShare, func(t *api.Table, i int) { t.Tenants[i].Windows[4] = t.Tenants[i-1].Windows[4] }},
		{api.ErrSlot, func(t *api.Table, i int) { t.Tenants[i].Slots[2] = t.Tenants[0].Slots[0] }},
	}
}

// TestWhereOrder: of two faults the one that the chapter names first, of two tenants' faults the first tenant's.
func TestWhereOrder(t *testing.T) {
	for i := 1; i < 4; i++ {
		for k := 1; k < 4; k++ {
			for one, a := range harms() {
				for two, b := range harms() {
					x := full()
					a.do(&x, i)
					b.do(&x, k)
					switch {
					case i == k:
						hold(t, x, harms()[min(one, two)].why, i, "two faults of one tenant")
					case i < k:
						hold(t, x, a.why, i, "faults of two tenants")
					default:
						hold(t, x, b.why, k, "faults of two tenants")
					}
				}
			}
		}
	}
	for i := range 4 {
		for _, a := range harms()[:5] {
			x := full()
			a.do(&x, i)
			hold(t, x, a.why, i, "a fault of one tenant")
			x.Frame = 2001
			hold(t, x, api.ErrFrame, nobody, "a fault of one tenant, and of the frame")
			x.Frame, x.Tenants = 2000, append(x.Tenants, other())
			hold(t, x, api.ErrMany, nobody, "a fault of one tenant, and one tenant too many")
		}
	}
	// Too few and too many are one refusal, behind that of the queue and ahead of that of the windows.
	x := full()
	x.Tenants[1].Queue, x.Tenants[1].Slots = 0, nil
	hold(t, x, api.ErrQueue, 1, "no queue and no slot")
	x.Tenants[1].Queue, x.Tenants[1].Windows[0].Space = 1, 4
	hold(t, x, api.ErrMany, 1, "no slot and a wrong window")
	// All that is the tenant's alone goes ahead of what it has in common with others.
	x = made()
	x.Tenants[1].Windows, x.Tenants[1].Slots = x.Tenants[0].Windows, []api.Slot{slot(300, 71)}
	hold(t, x, api.ErrSlot, 1, "a short slot and a shared window")
	x.Tenants[1].Slots = []api.Slot{slot(600, 72), slot(600, 72)}
	hold(t, x, api.ErrShare, 1, "a shared window, and two slots of its own that meet")
	x.Tenants[1].Windows = nil
	hold(t, x, api.ErrSlot, 1, "two slots of its own that meet")
}

// some answers a table of small numbers, that may be or nearly.
func some(r *rand.Rand) api.Table {
	x := api.Table{Frame: 300 + r.Intn(700)}
	for range 1 + r.Intn(4) {
		y := api.Tenant{Unit: 1 + r.Intn(247), Functions: r.Uint32(), Queue: 1 + r.Intn(6)}
		for range r.Intn(4) {
			y.Windows = append(y.Windows, win(r.Intn(4), r.Intn(200), r.Intn(200), 1+r.Intn(10)))
		}
		for range 1 + r.Intn(2) {
			y.Slots = append(y.Slots, slot(r.Intn(x.Frame-80), 72+r.Intn(9)))
		}
		x.Tenants = append(x.Tenants, y)
	}
	if r.Intn(4) == 0 {
		spoil(r, &x)
	}
	return x
}

// spoil sets one number of x to a wild one.
func spoil(r *rand.Rand, x *api.Table) {
	n := wild[r.Intn(len(wild))]
	y := &x.Tenants[r.Intn(len(x.Tenants))]
	switch k := r.Intn(10); {
	case k == 0:
		x.Frame = n
	case k == 1:
		y.Unit = n
	case k == 2:
		y.Queue = n
	case k == 3:
		y.Slots[0].At = n
	case k == 4:
		y.Slots[0].Len = n
	case k == 5:
		y.Slots = nil
	case len(y.Windows) == 0:
		y.Windows = slices.Repeat([]api.Window{win(0, 0, 0, 1)}, r.Intn(9))
	default:
		w := &y.Windows[r.Intn(len(y.Windows))]
		*[]*int{&w.Space, &w.Virtual, &w.Physical, &w.Count}[k-6] = n
	}
}

// TestWhereByModel: many tables against Where worked out another way.
func TestWhereByModel(t *testing.T) {
	r := rand.New(rand.NewSource(11))
	seen := map[api.Errno]int{}
	for range 20000 {
		x := some(r)
		why, at := judged(x)
		seen[why]++
		if got, where := table.Where(x); got != why || where != at || table.Right(x) != (why == api.OK) {
			t.Fatalf("P11.1: Where(%v) = %d, %d, want %d, %d; Right is %v", x, int(got), where, int(why), at, table.Right(x))
		}
	}
	for _, why := range []api.Errno{api.OK, api.ErrFrame, api.ErrMany, api.ErrUnit, api.ErrQueue, api.ErrWindow, api.ErrShare, api.ErrSlot} {
		if seen[why] < 20 {
			t.Errorf("the runs are of no use: refusal %d came %d times", int(why), seen[why])
		}
	}
}

// changes are tables that differ from made in one thing each.
func changes() []api.Table {
	var out []api.Table
	change := func(f func(x *api.Table)) {
		x := made()
		f(&x)
		out = append(out, x)
	}
	change(func(x *api.Table) { x.Frame++ })
	change(func(x *api.Table) { x.Frame = -x.Frame })
	change(func(x *api.Table) { x.Tenants = x.Tenants[:2] })
	change(func(x *api.Table) { x.Tenants = x.Tenants[1:] })
	change(func(x *api.Table) { x.Tenants = nil })
	change(func(x *api.Table) { x.Tenants = append(x.Tenants, api.Tenant{}) })
	change(func(x *api.Table) { x.Tenants[0], x.Tenants[1] = x.Tenants[1], x.Tenants[0] })
	change(func(x *api.Table) { x.Tenants[1] = x.Tenants[2] })
	for i, y := range made().Tenants {
		for _, f := range tenantChanges(y) {
			change(func(x *api.Table) { x.Tenants[i] = f })
		}
	}
	return out
}

// tenantChanges are tenants that differ from y in one thing each.
func tenantChanges(y api.Tenant) []api.Tenant {
	var out []api.Tenant
	change := func(f func(y *api.Tenant)) {
		z := y
		z.Windows, z.Slots = slices.Clone(y.Windows), slices.Clone(y.Slots)
		f(&z)
		out = append(out, z)
	}
	change(func(y *api.Tenant) { y.Unit++ })
	change(func(y *api.Tenant) { y.Unit += 256 })
	change(func(y *api.Tenant) { y.Functions ^= 1 })
	change(func(y *api.Tenant) { y.Functions ^= 1 << 31 })
	change(func(y *api.Tenant) { y.Queue-- })
	change(func(y *api.Tenant) { y.Windows = nil })
	change(func(y *api.Tenant) { y.Slots = nil })
	change(func(y *api.Tenant) { y.Windows = append(y.Windows, api.Window{}) })
	change(func(y *api.Tenant) { y.Slots = append(y.Slots, api.Slot{}) })
	change(func(y *api.Tenant) { y.Windows = y.Windows[1:] })
	change(func(y *api.Tenant) { y.Slots = y.Slots[:len(y.Slots)-1] })
	for k := range y.Windows {
		change(func(y *api.Tenant) { y.Windows[k].Space++ })
		change(func(y *api.Tenant) { y.Windows[k].Virtual-- })
		change(func(y *api.Tenant) { y.Windows[k].Physical += 1 << 32 })
		change(func(y *api.Tenant) { y.Windows[k].Count = -y.Windows[k].Count })
	}
	for k := range y.Slots {
		change(func(y *api.Tenant) { y.Slots[k].At ^= 1 })
		change(func(y *api.Tenant) { y.Slots[k].Len += 256 })
	}
	return out
}

func TestSame(t *testing.T) {
	for _, y := range made().Tenants {
		if !table.Same(y, y) || !table.Same(y, table.Copy(api.Table{Tenants: []api.Tenant{y}}).Tenants[0]) {
			t.Errorf("P11.1: Same(%v, itself) = false", y)
		}
		for _, z := range tenantChanges(y) {
			if table.Same(y, z) || table.Same(z, y) {
				t.Errorf("P11.1: Same(%v, %v) = true", y, z)
			}
		}
		z := y
		z.Windows = slices.Clone(y.Windows)
		slices.Reverse(z.Windows)
		if table.Same(y, z) != (len(y.Windows) < 2) {
			t.Errorf("P11.1: Same(%v, %v): the order of windows is not asked", y, z)
		}
		z = y
		z.Slots = slices.Clone(y.Slots)
		slices.Reverse(z.Slots)
		if table.Same(y, z) != (len(y.Slots) < 2) {
			t.Errorf("P11.1: Same(%v, %v): the order of slots is not asked", y, z)
		}
	}
	if !table.Same(api.Tenant{}, api.Tenant{Windows: []api.Window{}, Slots: []api.Slot{}}) || !table.Same(api.Tenant{Slots: []api.Slot{}}, api.Tenant{}) {
		t.Error("P11.1: Same: nil and empty lists differ")
	}
}

func TestEqual(t *testing.T) {
	if !table.Equal(made(), made()) || !table.Equal(full(), full()) || table.Equal(made(), full()) {
		t.Error("P11.1: Equal of whole tables")
	}
	all := changes()
	for i, x := range all {
		if table.Equal(x, made()) || table.Equal(made(), x) {
			t.Errorf("P11.1: Equal takes change %d: %v", i, x)
		}
		for k, y := range all {
			if want := slices.Equal(plain(x), plain(y)); table.Equal(x, y) != want {
				t.Errorf("P11.1: Equal of changes %d and %d is not %v", i, k, want)
			}
		}
	}
	for _, none := range []api.Table{{}, {Tenants: []api.Tenant{}}, {Tenants: made().Tenants[:0]}} {
		if !table.Equal(none, api.Table{}) || !table.Equal(api.Table{}, none) || table.Equal(none, made()) {
			t.Error("P11.1: Equal: nil and empty lists differ")
		}
	}
	one, two := made(), made()
	one.Tenants[0].Windows, two.Tenants[0].Windows = nil, []api.Window{}
	one.Tenants[1].Slots, two.Tenants[1].Slots = []api.Slot{}, nil
	if !table.Equal(one, two) || !table.Equal(two, one) {
		t.Error("P11.1: Equal: a tenant's nil and empty lists differ")
	}
}

// odd are tables of all kinds, many of which may not be.
func odd() []api.Table {
	out := append(changes(), api.Table{}, made(), full(), api.Table{Frame: math.MinInt, Tenants: make([]api.Tenant, 9)}, api.Table{Tenants: []api.Tenant{}})
	wildest := api.Table{Frame: math.MaxInt}
	for _, n := range wild {
		wildest.Tenants = append(wildest.Tenants, api.Tenant{Unit: n, Functions: uint32(n), Queue: n, Windows: []api.Window{win(n, -n, n, n), {}}, Slots: []api.Slot{slot(n, n), slot(n, n), {}}})
	}
	empty := api.Table{Tenants: []api.Tenant{{Windows: []api.Window{}, Slots: []api.Slot{}}, {}, {Slots: make([]api.Slot, 1000)}}}
	return append(out, wildest, empty)
}

func TestCopy(t *testing.T) {
	for i, x := range odd() {
		got := table.Copy(x)
		if !slices.Equal(plain(got), plain(x)) || !table.Equal(got, x) {
			t.Errorf("P11.1: Copy of table %d is another one: %v", i, got)
		}
		one, where := table.Where(x)
		if two, at := table.Where(got); one != two || where != at {
			t.Errorf("P11.1: Where of a copy of table %d is not as of it", i)
		}
	}
}

func TestCopyIsNewMemory(t *testing.T) {
	for i, x := range odd() {
		in := roomyTable(x)
		before := deep(in)
		one, two, three := table.Copy(in), table.Copy(in), table.Copy(in)
		want := plain(x)
		scribbleTable(two)
		if !slices.Equal(deep(in), before) {
			t.Fatalf("R2: Copy of table %d shares memory with it", i)
		}
		if !slices.Equal(plain(one), want) {
			t.Fatalf("R2: two copies of table %d share memory", i)
		}
		scribbleTable(in)
		if !slices.Equal(plain(one), want) || !slices.Equal(plain(three), want) {
			t.Fatalf("R2: Copy of table %d has memory of it", i)
		}
	}
}

// TestCopyOfSharedLists: lists that are one in what is handed in are lists of their own in the answer.
func TestCopyOfSharedLists(t *testing.T) {
	x := api.Table{Frame: 9, Tenants: slices.Repeat([]api.Tenant{tenant(1, []api.Window{win(0, 1, 2, 3), win(1, 2, 3, 4)}, slot(1, 2), slot(3, 4))}, 3)}
	x.Tenants[2].Windows = x.Tenants[0].Windows[:1]
	x.Tenants[2].Slots = x.Tenants[0].Slots[1:]
	want := plain(x)
	got := table.Copy(x)
	if !slices.Equal(plain(got), want) {
		t.Fatalf("P11.1: Copy = %v, want %v", got, x)
	}
	for i := range got.Tenants {
		got = table.Copy(x)
		scribble(got.Tenants[i].Windows, win(7, 7, 7, 7))
		scribble(got.Tenants[i].Slots, slot(7, 7))
		for k, y := range got.Tenants {
			if k != i && !table.Same(y, x.Tenants[k]) {
				t.Errorf("R2: the lists of tenants %d and %d of a copy are one", i, k)
			}
		}
	}
	if !slices.Equal(plain(x), want) {
		t.Error("R2: a copy's lists are those of what was handed in")
	}
}

func TestNothingChanged(t *testing.T) {
	for i, x := range odd() {
		a, b := roomyTable(x), roomyTable(made())
		before, beside := deep(a), deep(b)
		table.Where(a)
		table.Right(a)
		table.Equal(a, b)
		table.Equal(b, a)
		table.Copy(a)
		for _, y := range a.Tenants {
			table.Same(y, b.Tenants[0])
			table.Same(b.Tenants[0], y)
		}
		if !slices.Equal(deep(a), before) || !slices.Equal(deep(b), beside) {
			t.Errorf("R2: table %d, or the one beside it, is changed", i)
		}
	}
}

// TestRoomNotRead: what is behind a list's length is not of it.
func TestRoomNotRead(t *testing.T) {
	for i, x := range odd() {
		in := roomyTable(x)
		one, where := table.Where(x)
		if two, at := table.Where(in); one != two || where != at {
			t.Errorf("R5: Where of table %d reads the room behind a list", i)
		}
		if !table.Equal(in, x) || !table.Equal(x, in) {
			t.Errorf("R5: Equal of table %d reads the room behind a list", i)
		}
	}
	// The same room filled with what may be, and with what may not.
	x := made()
	x.Tenants = x.Tenants[:2]
	x.Tenants[0].Windows = x.Tenants[0].Windows[:1]
	x.Tenants[0].Slots = x.Tenants[0].Slots[:1]
	whole(x.Tenants)[2].Unit = 0
	whole(x.Tenants[0].Windows)[1].Space = 4
	whole(x.Tenants[0].Slots)[1].Len = 0
	hold(t, x, api.OK, nobody, "faults in the room behind the lists")
	none := made()
	none.Tenants[1].Slots = none.Tenants[1].Slots[:0]
	hold(t, none, api.ErrMany, 1, "a slot in the room behind an empty list")
}

// TestWhereOfEmptyLists: nil and empty lists mean the same.
func TestWhereOfEmptyLists(t *testing.T) {
	for i := range made().Tenants {
		x, y := made(), made()
		x.Tenants[i].Windows, y.Tenants[i].Windows = nil, []api.Window{}
		hold(t, x, api.OK, nobody, "nil windows")
		hold(t, y, api.OK, nobody, "empty windows")
		x.Tenants[i].Slots, y.Tenants[i].Slots = nil, []api.Slot{}
		hold(t, x, api.ErrMany, i, "nil slots")
		hold(t, y, api.ErrMany, i, "empty slots")
	}
}
