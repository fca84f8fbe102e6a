package gate_test

import (
	"errors"
	"math"
	"noria/api"
	"noria/cells"
	"noria/fault"
	"noria/gate"
	"slices"
	"testing"
)

// edges are numbers near the ends of their type, and near 0.
var edges = []int64{math.MinInt64, math.MinInt64 + 1, -2, -1, 0, 1, 2, api.MaxSeq, math.MaxInt64 - 1, math.MaxInt64}

// wrong are numbers that no cell has.
var wrong = []int{-1, -2, math.MinInt, api.MaxCells, api.MaxCells + 1, 1 << 32, math.MaxInt}

// arena is one whose cells have some numbers.
func arena(t *testing.T, l ...int64) *cells.Arena {
	t.Helper()
	a := cells.New()
	for _, v := range l {
		if _, e := a.Alloc(v); e != nil {
			t.Fatal(e)
		}
	}
	return a
}

// numbers are what an arena's cells have. It asks a clone: a load is a step.
func numbers(a *cells.Arena) []int64 {
	b := a.Clone()
	l := make([]int64, 0, b.Len())
	for id := range b.Len() {
		v, _ := b.Load(id)
		l = append(l, v)
	}
	return l
}

// group is one of some cells.
func group(t *testing.T, ids ...int) *gate.Group {
	t.Helper()
	g, e := gate.Of(ids...)
	if g == nil || e != nil {
		t.Fatal(ids, g, e)
	}
	return g
}

// upTo are the numbers from one on, up to another one.
func upTo(lo, hi int) []int {
	var l []int
	for id := lo; id <= hi; id++ {
		l = append(l, id)
	}
	return l
}

// has wants a group to have just these cells, in this order.
func has(t *testing.T, g *gate.Group, ids ...int) {
	t.Helper()
	if l := g.Cells(); !slices.Equal(l, ids) || g.Len() != len(ids) {
		t.Fatal(l, g.Len(), ids)
	}
}

// least wants Least to tell this.
func least(t *testing.T, g *gate.Group, a *cells.Arena, most, want int64) {
	t.Helper()
	if v, e := g.Least(a, most); v != want || e != nil {
		t.Fatal(g.Cells(), most, v, want, e)
	}
}

// who wants Who to tell these.
func who(t *testing.T, g *gate.Group, a *cells.Arena, want ...int) {
	t.Helper()
	if l, e := g.Who(a); !slices.Equal(l, want) || e != nil {
		t.Fatal(g.Cells(), l, want, e)
	}
}

// at wants a scan to have seen this as the least, and to be done, or not.
func at(t *testing.T, s gate.Scan, done bool, want int64) {
	t.Helper()
	if s.Done() != done || s.Least() != want {
		t.Fatal(s.Done(), s.Least(), done, want)
	}
}

// step wants a scan to go on.
func step(t *testing.T, s gate.Scan, a *cells.Arena) gate.Scan {
	t.Helper()
	s, e := s.Step(a)
	if e != nil {
		t.Fatal(e)
	}
	return s
}

// The chapter's example.
func TestExample(t *testing.T) {
	g, a := group(t, 0, 1), arena(t, 5, 3)
	least(t, g, a, 9, 3)
	least(t, g, a, 1, 1)
}

// P8.1: Of has the cells as they come, 0 and the last one that may be too; of none it is empty.
func TestOf(t *testing.T) {
	has(t, group(t))
	has(t, group(t, []int{}...))
	for _, ids := range [][]int{{0}, {api.MaxCells - 1}, {7, 3, 5}, {api.MaxCells - 1, 0}, upTo(1, api.MaxGroup)} {
		g := group(t, ids...)
		has(t, g, ids...)
		if g == group(t, ids...) {
			t.Fatal("two groups are one")
		}
	}
}

// Errors: Of goes number by number, to the first one that is refused.
func TestOfRefused(t *testing.T) {
	full := upTo(1, api.MaxGroup)
	for _, c := range []struct {
		ids  []int
		want error
	}{
		{[]int{-1}, api.ErrArg}, {[]int{api.MaxCells}, api.ErrArg}, {[]int{4, 5, math.MinInt}, api.ErrArg}, {[]int{math.MaxInt, 1}, api.ErrArg},
		{[]int{4, 4}, api.ErrThere}, {[]int{0, 1, 2, 0}, api.ErrThere}, {[]int{api.MaxCells - 1, api.MaxCells - 1}, api.ErrThere},
		{append(slices.Clone(full), 33), api.ErrMany}, {append(slices.Clone(full), 0), api.ErrMany}, {upTo(0, 100), api.ErrMany},
		// Of one number, the first error that the chapter names.
		{append(slices.Clone(full), -1), api.ErrArg}, {append(slices.Clone(full), api.MaxCells), api.ErrArg}, {append(slices.Clone(full), 32), api.ErrThere},
		// Of several numbers, the first that is refused.
		{[]int{1, 1, -1}, api.ErrThere}, {[]int{1, -1, 1}, api.ErrArg},
		{append(slices.Clone(full), 33, -1), api.ErrMany}, {append(slices.Clone(full), 33, 1), api.ErrMany},
		{append([]int{-1}, upTo(0, 40)...), api.ErrArg}, {append([]int{9, 9}, upTo(0, 40)...), api.ErrThere},
	} {
		if g, e := gate.Of(c.ids...); g != nil || !errors.Is(e, c.want) {
			t.Error(c.ids, g, e)
		}
	}
}

// R3: the numbers that are handed in stay, behind their end too, and aren't kept.
func TestOfKeepsNothing(t *testing.T) {
	l := upTo(1, 9)
	g := group(t, l[:4]...)
	g.Add(20)
	g.Drop(1)
	if !slices.Equal(l, upTo(1, 9)) {
		t.Fatal(l)
	}
	l[1] = 77
	has(t, g, 2, 3, 4, 20)
}

// P8.1: a zero group is empty, and goes on as any other does.
func TestZero(t *testing.T) {
	var g gate.Group
	a := arena(t, 8, 6)
	has(t, &g)
	least(t, &g, a, 7, 7)
	who(t, &g, a)
	at(t, g.Scan(7), true, 7)
	if e := g.Add(1); e != nil {
		t.Fatal(e)
	}
	has(t, &g, 1)
	least(t, &g, a, 7, 6)
}

// P8.1: Add puts a cell behind the others; Drop takes one out of wherever it is, and the others stay as they were.
func TestAddDrop(t *testing.T) {
	for n := range api.MaxGroup + 1 {
		for i := range n {
			g := group(t)
			for id := range n {
				has(t, g, upTo(0, id-1)...)
				if e := g.Add(id); e != nil {
					t.Fatal(n, id, e)
				}
			}
			if e := g.Drop(i); e != nil {
				t.Fatal(n, i, e)
			}
			left := append(upTo(0, i-1), upTo(i+1, n-1)...)
			has(t, g, left...)
			if e := g.Drop(i); !errors.Is(e, api.ErrNone) {
				t.Fatal(n, i, e)
			}
			has(t, g, left...)
			if e := g.Add(i); e != nil {
				t.Fatal(n, i, e)
			}
			has(t, g, append(left, i)...)
		}
	}
}

// Errors: what Add and Drop refuse changes nothing, and the first error that the chapter names is told.
func TestAddDropRefused(t *testing.T) {
	for _, n := range []int{0, 1, 5, api.MaxGroup} {
		ids := upTo(10, 9+n)
		g := group(t, ids...)
		for _, id := range wrong {
			if e, f := g.Add(id), g.Drop(id); !errors.Is(e, api.ErrArg) || !errors.Is(f, api.ErrNone) {
				t.Fatal(n, id, e, f)
			}
		}
		for _, id := range ids {
			if e := g.Add(id); !errors.Is(e, api.ErrThere) {
				t.Fatal(n, id, e)
			}
		}
		for _, id := range []int{0, 9, 10 + n, api.MaxCells - 1} {
			if e := g.Drop(id); !errors.Is(e, api.ErrNone) {
				t.Fatal(n, id, e)
			}
			if n < api.MaxGroup {
				continue
			}
			if e := g.Add(id); !errors.Is(e, api.ErrMany) {
				t.Fatal(n, id, e)
			}
		}
		has(t, g, ids...)
	}
}

// P8.1: MaxGroup cells are in, and one more only when one has gone.
func TestFull(t *testing.T) {
	g := group(t, upTo(0, api.MaxGroup-1)...)
	for id := api.MaxGroup; id < 4*api.MaxGroup; id++ {
		if e := g.Add(id); !errors.Is(e, api.ErrMany) {
			t.Fatal(id, e)
		}
		if e, f := g.Drop(id-api.MaxGroup), g.Add(id); e != nil || f != nil {
			t.Fatal(id, e, f)
		}
		has(t, g, upTo(id-api.MaxGroup+1, id)...)
	}
}

// R3: what Cells and Who hand out is new memory.
func TestHandedOut(t *testing.T) {
	g, a := group(t, 0, 1, 2), arena(t, 4, 4, 4)
	for _, l := range [][]int{g.Cells(), append(g.Cells(), 9)} {
		l[0], l[2] = 8, 8
		has(t, g, 0, 1, 2)
	}
	l, _ := g.Who(a)
	l[0] = 8
	_ = append(l[:1], 8)
	has(t, g, 0, 1, 2)
	who(t, g, a, 0, 1, 2)
	kept := g.Cells()
	g.Drop(0)
	g.Add(0)
	if !slices.Equal(kept, []int{0, 1, 2}) {
		t.Fatal(kept)
	}
}

// P8.1: a group asks for no arena: cells that there are none of are put in too.
func TestWithoutArena(t *testing.T) {
	g := group(t, 900, 5)
	if e, f := g.Add(api.MaxCells-1), g.Drop(900); e != nil || f != nil {
		t.Fatal(e, f)
	}
	has(t, g, 5, api.MaxCells-1)
}

// P8.2: Least is the least of most, and of what the cells have, of any numbers; of no cell it is most.
func TestLeast(t *testing.T) {
	for _, x := range edges {
		for _, y := range edges {
			for _, most := range edges {
				a := arena(t, math.MinInt64, x, y)
				least(t, group(t), a, most, most)
				least(t, group(t, 1), a, most, min(most, x))
				least(t, group(t, 1, 2), a, most, min(most, x, y))
				least(t, group(t, 2, 1), a, most, min(most, x, y))
				least(t, group(t, 2, 0), a, most, math.MinInt64)
			}
		}
	}
}

// P8.2: Who are those that have the least, in the order in which they were put in, not that of their numbers.
func TestWho(t *testing.T) {
	a := arena(t, 4, 9, 4, -3, 9, -3, math.MaxInt64, math.MinInt64)
	for _, c := range []struct{ ids, want []int }{
		{nil, nil}, {[]int{1}, []int{1}}, {[]int{6}, []int{6}}, {[]int{7}, []int{7}},
		{[]int{0, 1, 2}, []int{0, 2}}, {[]int{2, 1, 0}, []int{2, 0}}, {[]int{4, 1}, []int{4, 1}},
		{[]int{5, 0, 2, 3}, []int{5, 3}}, {[]int{0, 2, 3, 5, 1}, []int{3, 5}}, {[]int{6, 1, 0, 2}, []int{0, 2}},
		{[]int{3, 5, 7, 6}, []int{7}}, {[]int{6, 0, 3, 7}, []int{7}}, {[]int{7, 0}, []int{7}},
	} {
		who(t, group(t, c.ids...), a, c.want...)
	}
}

// P8.2: whatever cells have, of whatever groups: held against a plain reckoning.
func TestLeastWhoAll(t *testing.T) {
	orders := [][]int{{}, {2}, {0, 1}, {3, 1}, {0, 1, 2}, {2, 0, 3}, {3, 2, 1, 0}, {1, 3, 0, 2}}
	for code := range 81 {
		l := []int64{int64(code % 3), int64(code / 3 % 3), int64(code / 9 % 3), int64(code / 27)}
		a := arena(t, l...)
		for _, ids := range orders {
			g := group(t, ids...)
			for most := int64(-1); most < 4; most++ {
				want := most
				for _, id := range ids {
					want = min(want, l[id])
				}
				least(t, g, a, most, want)
			}
			var want []int
			for _, id := range ids {
				if !slices.ContainsFunc(ids, func(other int) bool { return l[other] < l[id] }) {
					want = append(want, id)
				}
			}
			who(t, g, a, want...)
		}
	}
}

// P8.2: Least and Who load each cell once, and write none.
func TestLoads(t *testing.T) {
	for n := range api.MaxGroup + 1 {
		l := make([]int64, n+1)
		for i := range l {
			l[i] = int64(100 - i)
		}
		a, g := arena(t, l...), group(t, upTo(0, n-1)...)
		g.Least(a, 5)
		if a.Steps() != n {
			t.Fatal(n, a.Steps())
		}
		g.Who(a)
		if a.Steps() != 2*n || !slices.Equal(numbers(a), l) {
			t.Fatal(n, a.Steps(), numbers(a))
		}
		has(t, g, upTo(0, n-1)...)
	}
}

// P8.2: they tell of the cells as they are then.
func TestLeastNow(t *testing.T) {
	a, g := arena(t, 5, 3, 9), group(t, 0, 1)
	least(t, g, a, 100, 3)
	a.Store(1, 7)
	least(t, g, a, 100, 5)
	who(t, g, a, 0)
	a.Store(2, 1)
	least(t, g, a, 100, 5)
	g.Add(2)
	least(t, g, a, 100, 1)
	who(t, g, a, 2)
	g.Drop(2)
	g.Drop(0)
	least(t, g, a, 100, 7)
	who(t, g, a, 1)
}

// P8.3: a scan sees one cell at each step, in order, and is done behind the last one.
func TestScan(t *testing.T) {
	for n := range api.MaxGroup + 1 {
		var l []int64
		for i := range n {
			l = append(l, int64(i*17%23))
		}
		ids := upTo(0, n-1)
		slices.Reverse(ids)
		a := arena(t, l...)
		s, want := group(t, ids...).Scan(11), int64(11)
		for i, id := range ids {
			at(t, s, false, want)
			if a.Steps() != i {
				t.Fatal(n, i, a.Steps())
			}
			s, want = step(t, s, a), min(want, l[id])
		}
		for range 3 {
			at(t, s, true, want)
			if a.Steps() != n {
				t.Fatal(n, a.Steps())
			}
			s = step(t, s, a)
		}
		if len(l) > 0 && !slices.Equal(numbers(a), l) {
			t.Fatal(n, numbers(a))
		}
	}
}

// P8.3: the least of a scan is that of most, and of what it saw, of any numbers.
func TestScanLeast(t *testing.T) {
	for _, x := range edges {
		for _, y := range edges {
			for _, most := range edges {
				a := arena(t, x, y)
				s := group(t, 1, 0).Scan(most)
				at(t, s, false, most)
				s = step(t, s, a)
				at(t, s, false, min(most, y))
				s = step(t, s, a)
				at(t, s, true, min(most, x, y))
			}
		}
	}
}

// P8.3: a scan has the cells that were in at its beginning, whatever becomes of the group.
func TestScanThen(t *testing.T) {
	a, g := arena(t, 7, 5, 6, 1), group(t, 0, 1, 2)
	s := g.Scan(9)
	for _, act := range []func(){
		func() { g.Add(3) },
		func() { g.Drop(1) },
		func() { g.Drop(0); g.Drop(2); g.Drop(3); g.Add(3) },
	} {
		act()
		x := s
		for _, want := range []int64{7, 5, 5} {
			x = step(t, x, a)
			at(t, x, x.Done(), want)
		}
		at(t, x, true, 5)
	}
	at(t, step(t, g.Scan(9), a), true, 1)
	s = step(t, s, a)
	has(t, g, 3)
	at(t, s, false, 7)
	g.Add(2)
	at(t, step(t, step(t, s, a), a), true, 5)
	at(t, group(t).Scan(4), true, 4)
}

// P8.3: a scan is a value: a step of it leaves it as it was.
func TestScanValue(t *testing.T) {
	a := arena(t, 7, 5, 6)
	first := group(t, 0, 1, 2).Scan(9)
	second := step(t, first, a)
	third := step(t, second, a)
	at(t, first, false, 9)
	at(t, second, false, 7)
	at(t, third, false, 5)
	at(t, step(t, first, a), false, 7)
	at(t, step(t, third, a), true, 5)
}

// P8.3: a scan tells what each cell has when it sees it.
func TestScanWrites(t *testing.T) {
	a := arena(t, 7, 7, 7)
	s := step(t, group(t, 0, 1, 2).Scan(20), a)
	a.Store(0, 1)
	a.Store(1, 6)
	s = step(t, s, a)
	at(t, s, false, 6)
	a.Store(1, 2)
	a.Store(2, 4)
	at(t, step(t, s, a), true, 4)
}

// P8.3: a scan without writes between tells what Least tells.
func TestScanIsLeast(t *testing.T) {
	for code := range 625 {
		a := arena(t, int64(code%5), int64(code/5%5), int64(code/25%5), int64(code/125))
		for _, ids := range [][]int{{}, {1}, {3, 0}, {2, 1, 0}, {0, 1, 2, 3}} {
			g := group(t, ids...)
			for most := int64(0); most < 5; most++ {
				s := g.Scan(most)
				for !s.Done() {
					s = step(t, s, a)
				}
				least(t, g, a, most, s.Least())
			}
		}
	}
}

// Errors: nil is ErrNil, ahead of all others; else it is 0, and none.
func TestNil(t *testing.T) {
	var nobody *gate.Group
	a := arena(t, 5)
	has(t, nobody)
	for _, id := range append([]int{0, 5}, wrong...) {
		if e, f := nobody.Add(id), nobody.Drop(id); !errors.Is(e, api.ErrNil) || !errors.Is(f, api.ErrNil) {
			t.Fatal(id, e, f)
		}
	}
	for _, c := range []struct {
		g *gate.Group
		a *cells.Arena
	}{{nobody, a}, {nobody, nil}, {group(t, 0), nil}, {group(t, 7), nil}, {group(t), nil}} {
		v, e := c.g.Least(c.a, 9)
		l, f := c.g.Who(c.a)
		if v != 0 || len(l) != 0 || !errors.Is(e, api.ErrNil) || !errors.Is(f, api.ErrNil) {
			t.Fatal(v, l, e, f)
		}
	}
	if a.Steps() != 0 {
		t.Fatal(a.Steps())
	}
}

// P8.3: a scan of nil is one of no cell.
func TestScanNil(t *testing.T) {
	var nobody *gate.Group
	a := arena(t, 5)
	for _, most := range edges {
		s := nobody.Scan(most)
		at(t, s, true, most)
		at(t, step(t, s, a), true, most)
	}
	if a.Steps() != 0 {
		t.Fatal(a.Steps())
	}
}

// Errors: a step with a nil arena is ErrNil, and the scan as it was.
func TestScanNilArena(t *testing.T) {
	a := arena(t, 5, 3)
	s := group(t, 0, 1).Scan(9)
	for _, want := range []int64{9, 5, 3} {
		for range 2 {
			x, e := s.Step(nil)
			if !errors.Is(e, api.ErrNil) {
				t.Fatal(want, e)
			}
			at(t, x, want == 3, want)
			s = x
		}
		s = step(t, s, a)
	}
}

// Errors: a cell that the arena lacks is ErrNone, wherever it stands; no step is counted, and the group stays.
func TestNone(t *testing.T) {
	for _, ids := range [][]int{{2}, {2, 0}, {0, 2}, {0, 1, 2}, {1, api.MaxCells - 1, 0}, {0, 3, 2}} {
		a, g := arena(t, 5, 3), group(t, ids...)
		v, e := g.Least(a, 1)
		l, f := g.Who(a)
		if v != 0 || len(l) != 0 || !errors.Is(e, api.ErrNone) || !errors.Is(f, api.ErrNone) || a.Steps() != 0 {
			t.Fatal(ids, v, l, e, f, a.Steps())
		}
		has(t, g, ids...)
		a.Alloc(-4)
		if len(ids) < 3 {
			least(t, g, a, 1, -4)
		}
	}
	if _, e := group(t, 0).Least(cells.New(), 1); !errors.Is(e, api.ErrNone) {
		t.Fatal(e)
	}
}

// Errors: a scan that comes to a cell that the arena lacks is as it was, and goes on when the cell is there.
func TestScanNone(t *testing.T) {
	a := arena(t, 5)
	s := step(t, group(t, 0, 1).Scan(9), a)
	for range 3 {
		x, e := s.Step(a)
		if !errors.Is(e, api.ErrNone) || a.Steps() != 1 {
			t.Fatal(e, a.Steps())
		}
		at(t, x, false, 5)
		s = x
	}
	a.Alloc(2)
	s = step(t, s, a)
	at(t, s, true, 2)
	at(t, step(t, s, cells.New()), true, 2)
}

// R1: a zero scan doesn't panic.
func TestZeroScan(t *testing.T) {
	var s gate.Scan
	s.Done()
	s.Least()
	s.Step(nil)
	s.Step(arena(t, 5))
}

// Errors are numbers within faults, whose place tells which cell was refused.
func TestPlace(t *testing.T) {
	e := group(t, 4).Add(4)
	if op, seq, ok := fault.At(e); op != "add" || seq != 4 || !ok || fault.Code(e) != api.ErrThere {
		t.Fatal(op, seq, ok)
	}
}

// act does one of eight things to a group and to a plain list, and says whether both answered the same.
func act(g *gate.Group, l []int, what int) ([]int, bool) {
	id := what / 2
	i := slices.Index(l, id)
	if what%2 == 0 {
		e := g.Add(id)
		if i >= 0 {
			return l, errors.Is(e, api.ErrThere)
		}
		return append(l, id), e == nil
	}
	e := g.Drop(id)
	if i < 0 {
		return l, errors.Is(e, api.ErrNone)
	}
	return slices.Delete(l, i, i+1), e == nil
}

// P8.1, P8.3: whatever is done behind each other, a group has what a plain list would, and a scan what it began with.
func TestAll(t *testing.T) {
	const long = 6
	a := arena(t, 3, 1, 2, 0)
	for run := range 1 << (3 * long) {
		var g gate.Group
		var l, then []int
		var s gate.Scan
		for i := range long {
			if i == long/2 {
				s, then = g.Scan(9), slices.Clone(l)
			}
			var ok bool
			if l, ok = act(&g, l, run>>(3*i)&7); !ok {
				t.Fatalf("%o at %d", run, i)
			}
		}
		if !slices.Equal(g.Cells(), l) || g.Len() != len(l) {
			t.Fatalf("%o: %v %v", run, g.Cells(), l)
		}
		want := int64(9)
		for _, id := range then {
			if s.Done() || s.Least() != want {
				t.Fatalf("%o: %v", run, s.Least())
			}
			s, _ = s.Step(a)
			want = min(want, []int64{3, 1, 2, 0}[id])
		}
		if !s.Done() || s.Least() != want {
			t.Fatalf("%o: %v", run, s.Least())
		}
	}
}
