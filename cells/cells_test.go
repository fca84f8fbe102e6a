package cells_test

import (
	"errors"
	"math"
	"noria/api"
	"noria/cells"
	"slices"
	"testing"
)

// edges are numbers near the ends of their type, and near 0.
var edges = []int64{math.MinInt64, math.MinInt64 + 1, -api.MaxSeq, -2, -1, 0, 1, 2, api.MaxSeq, math.MaxInt64 - 1, math.MaxInt64}

// arena is one whose cells have some numbers.
func arena(t *testing.T, l ...int64) *cells.Arena {
	t.Helper()
	a := cells.New()
	for i, v := range l {
		if id, e := a.Alloc(v); id != i || e != nil {
			t.Fatal(i, id, e)
		}
	}
	return a
}

// has says whether an arena has just those numbers, and had so many steps. It asks a clone: a load is a step.
func has(a *cells.Arena, steps int, l ...int64) bool {
	if a.Len() != len(l) || a.Steps() != steps {
		return false
	}
	b := a.Clone()
	for i, want := range l {
		if v, e := b.Load(i); v != want || e != nil {
			return false
		}
	}
	return true
}

// The chapter's example.
func TestExample(t *testing.T) {
	a := cells.New()
	id, e := a.Alloc(3)
	ok, f := a.Swap(0, 3, 5)
	v, g := a.Load(0)
	if id != 0 || !ok || v != 5 || e != nil || f != nil || g != nil {
		t.Fatal(id, ok, v, e, f, g)
	}
}

// P3.1: New is without a cell, and each one is another.
func TestNew(t *testing.T) {
	a, b := cells.New(), cells.New()
	if a == nil || a == b || !has(a, 0) {
		t.Fatal(a, b)
	}
	a.Alloc(1)
	if !has(b, 0) {
		t.Fatal("two arenas share their cells")
	}
}

// P3.1: Alloc is how many cells there were, and is no step.
func TestAlloc(t *testing.T) {
	a := arena(t, edges...)
	if !has(a, 0, edges...) {
		t.Fatal(a.Len(), a.Steps())
	}
}

// Errors: MaxCells is allowed, one more is not.
func TestAllocMany(t *testing.T) {
	a := cells.New()
	for i := range api.MaxCells {
		if id, e := a.Alloc(int64(i)); id != i || e != nil {
			t.Fatal(i, id, e)
		}
	}
	for range 3 {
		if id, e := a.Alloc(7); id != 0 || !errors.Is(e, api.ErrMany) {
			t.Fatal(id, e)
		}
	}
	if a.Len() != api.MaxCells || a.Steps() != 0 {
		t.Fatal(a.Len(), a.Steps())
	}
	for _, id := range []int{0, 1, api.MaxCells - 2, api.MaxCells - 1} {
		if v, e := a.Load(id); v != int64(id) || e != nil {
			t.Fatal(id, v, e)
		}
	}
	if _, e := a.Load(api.MaxCells); !errors.Is(e, api.ErrNone) {
		t.Fatal(e)
	}
}

// P3.1: Load is what a cell has, and leaves it.
func TestLoad(t *testing.T) {
	a := arena(t, edges...)
	for i, want := range edges {
		if v, e := a.Load(i); v != want || e != nil {
			t.Fatal(i, v, e)
		}
	}
	if !has(a, len(edges), edges...) {
		t.Fatal(a.Steps())
	}
}

// P3.1, P3.2: Store lets its own cell have a number.
func TestStore(t *testing.T) {
	for i, v := range edges {
		a := arena(t, 10, 20, 30)
		if e := a.Store(1, v); e != nil || !has(a, 1, 10, v, 30) {
			t.Fatal(i, v, e)
		}
	}
}

// P3.1, P3.2: Swap lets its own cell have a number, if it has the old one.
func TestSwap(t *testing.T) {
	for _, had := range edges {
		for _, old := range edges {
			for _, v := range edges {
				a := arena(t, had, had, had)
				want := had
				if had == old {
					want = v
				}
				if ok, e := a.Swap(1, old, v); ok != (had == old) || e != nil || !has(a, 1, had, want, had) {
					t.Fatal(had, old, v, ok, e)
				}
			}
		}
	}
}

// P3.1, P3.2: Add lets its own cell have so much more; the sums that are none stay undone, and are steps.
func TestAdd(t *testing.T) {
	for _, c := range []struct {
		had, d, want int64
		none         bool
	}{
		{5, 3, 8, false}, {5, -8, -3, false}, {5, 0, 5, false}, {0, math.MinInt64, math.MinInt64, false}, {0, math.MaxInt64, math.MaxInt64, false},
		{math.MaxInt64, 0, math.MaxInt64, false}, {math.MinInt64, 0, math.MinInt64, false},
		{math.MaxInt64, math.MinInt64, -1, false}, {math.MinInt64, math.MaxInt64, -1, false},
		{math.MaxInt64 - 1, 1, math.MaxInt64, false}, {math.MinInt64 + 1, -1, math.MinInt64, false},
		{api.MaxSeq, api.MaxSeq - 1, math.MaxInt64, false}, {-api.MaxSeq, -api.MaxSeq, math.MinInt64, false},
		{math.MaxInt64, 1, 0, true}, {math.MinInt64, -1, 0, true}, {1, math.MaxInt64, 0, true}, {-1, math.MinInt64, 0, true},
		{math.MaxInt64, math.MaxInt64, 0, true}, {math.MinInt64, math.MinInt64, 0, true},
		{api.MaxSeq, api.MaxSeq, 0, true}, {-api.MaxSeq, -api.MaxSeq - 1, 0, true},
	} {
		a := arena(t, 10, c.had, 30)
		v, e := a.Add(1, c.d)
		if c.none {
			if v != 0 || !errors.Is(e, api.ErrRange) || !has(a, 1, 10, c.had, 30) {
				t.Error(c.had, c.d, v, e)
			}
		} else if v != c.want || e != nil || !has(a, 1, 10, c.want, 30) {
			t.Error(c.had, c.d, v, e)
		}
	}
}

// Errors: of cells that there are none of, nothing is answered, changed or counted.
func TestNone(t *testing.T) {
	for n, ids := range [][]int{{0, 1, -1}, {1, 2, -1}, {2, 3, -1, -2, 1 << 21, math.MinInt, math.MaxInt, 1 << 32, 1<<32 + 1}} {
		l := []int64{math.MaxInt64, math.MinInt64}[:n]
		a := arena(t, l...)
		for _, id := range ids {
			v, e := a.Load(id)
			f := a.Store(id, 7)
			ok, g := a.Swap(id, 0, 7)
			sum, h := a.Add(id, math.MaxInt64)
			for _, e := range []error{e, f, g, h} {
				if !errors.Is(e, api.ErrNone) {
					t.Fatal(n, id, e)
				}
			}
			if v != 0 || ok || sum != 0 || !has(a, 0, l...) {
				t.Fatal(n, id, v, ok, sum)
			}
		}
	}
}

// Errors: nil is ErrNil, ahead of all others; else it is 0, nil.
func TestNil(t *testing.T) {
	var a *cells.Arena
	for _, id := range []int{0, -1, math.MaxInt} {
		n, d := a.Alloc(5)
		v, e := a.Load(id)
		f := a.Store(id, 7)
		ok, g := a.Swap(id, 0, 0)
		sum, h := a.Add(id, 7)
		for _, e := range []error{d, e, f, g, h} {
			if !errors.Is(e, api.ErrNil) {
				t.Fatal(id, e)
			}
		}
		if n != 0 || v != 0 || ok || sum != 0 {
			t.Fatal(id, n, v, ok, sum)
		}
	}
	if a.Len() != 0 || a.Steps() != 0 || a.Clone() != nil {
		t.Fatal("nil has something")
	}
}

// P3.1: Steps counts each step of a cell that there is, those that change nothing too, and nothing else.
func TestSteps(t *testing.T) {
	a := arena(t, 1, 2)
	for i, step := range []func(){
		func() { a.Load(0) },
		func() { a.Store(1, 2) },
		func() { a.Swap(0, 1, 5) },
		func() { a.Swap(0, 1, 6) },
		func() { a.Swap(0, 5, 5) },
		func() { a.Add(1, 0) },
		func() { a.Add(1, math.MaxInt64) },
	} {
		step()
		if a.Steps() != i+1 {
			t.Fatal(i, a.Steps())
		}
	}
	for i, other := range []func(){
		func() { a.Alloc(7) },
		func() { a.Len() },
		func() { a.Steps() },
		func() { a.Clone().Load(0) },
		func() { a.Load(9) },
		func() { a.Store(9, 1) },
		func() { a.Swap(9, 0, 1) },
		func() { a.Add(9, 1) },
	} {
		other()
		if a.Steps() != 7 {
			t.Fatal(i, a.Steps())
		}
	}
}

// P3.1: a clone is the same, and each of the two goes on for itself.
func TestClone(t *testing.T) {
	for n := range 20 {
		l := make([]int64, n)
		for i := range l {
			l[i] = int64(100 + i)
		}
		a := arena(t, l...)
		if n > 0 {
			a.Load(0)
		}
		steps := a.Steps()
		b := a.Clone()
		if a == b || !has(b, steps, l...) {
			t.Fatal(n, b.Len(), b.Steps())
		}
		a.Alloc(1)
		b.Alloc(2)
		wantA, wantB := append(slices.Clone(l), 1), append(slices.Clone(l), 2)
		a.Store(0, 3)
		b.Swap(0, wantB[0], 4)
		b.Add(n, 5)
		wantA[0], wantB[0] = 3, 4
		wantB[n] += 5
		if !has(a, steps+1, wantA...) || !has(b, steps+2, wantB...) {
			t.Fatal(n, "shared")
		}
	}
}

// act does one of eight things to an arena and to plain numbers, and says whether both answered the same.
func act(a *cells.Arena, l []int64, what int) ([]int64, bool) {
	id := what % 2
	there := id < len(l)
	switch what / 2 {
	case 0:
		n, e := a.Alloc(int64(id))
		return append(l, int64(id)), n == len(l) && e == nil
	case 1:
		e := a.Store(id, 1)
		if there {
			l[id] = 1
		}
		return l, there == (e == nil)
	case 2:
		ok, e := a.Swap(id, 1, 4)
		want := there && l[id] == 1
		if want {
			l[id] = 4
		}
		return l, ok == want && there == (e == nil)
	}
	v, e := a.Add(id, 3)
	var want int64
	if there {
		l[id] += 3
		want = l[id]
	}
	return l, v == want && there == (e == nil)
}

// P3.1, P3.2: whatever is done behind each other, cells have what plain numbers would.
func TestAll(t *testing.T) {
	const long = 6
	for run := range 1 << (3 * long) {
		a, steps := cells.New(), 0
		var l []int64
		for i := range long {
			what := run >> (3 * i) & 7
			if what > 1 && what%2 < len(l) {
				steps++
			}
			var ok bool
			if l, ok = act(a, l, what); !ok {
				t.Fatalf("%o at %d", run, i)
			}
		}
		if !has(a, steps, l...) {
			t.Fatalf("%o", run)
		}
	}
}
