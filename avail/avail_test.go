package avail_test

import (
	"errors"
	"math"
	"noria/api"
	"noria/avail"
	"noria/cells"
	"noria/pow"
	"slices"
	"testing"
)

const most = 1 << api.MaxShift

// none are numbers that no index is.
var none = []int64{-1, -2, math.MinInt64, api.MaxSeq + 1, math.MaxInt64}

// size is one of so many slots.
func size(t *testing.T, n int64) pow.Size {
	t.Helper()
	s, e := pow.Of(int(n))
	if e != nil {
		t.Fatal(n, e)
	}
	return s
}

// arena is one with so many cells, all of which have a number.
func arena(t *testing.T, n int, v int64) *cells.Arena {
	t.Helper()
	a := cells.New()
	for range n {
		if _, e := a.Alloc(v); e != nil {
			t.Fatal(n, e)
		}
	}
	return a
}

// buffer is one of so many slots, behind so many cells that have 77, and ahead of one more.
func buffer(t *testing.T, n int64, ahead int) (*avail.Buffer, *cells.Arena) {
	t.Helper()
	a := arena(t, ahead, 77)
	b, e := avail.New(a, size(t, n))
	if b == nil || e != nil {
		t.Fatal(n, b, e)
	}
	a.Alloc(77)
	return b, a
}

// numbers are what an arena's cells have. It asks a clone: a load is a step.
func numbers(a *cells.Arena) []int64 {
	b := a.Clone()
	l := make([]int64, 0, b.Len())
	for id := range b.Len() {
		v, _ := b.Load(id)
		l = append(l, v)
	}
	return l
}

// show wants Show to be done.
func show(t *testing.T, b *avail.Buffer, a *cells.Arena, lo, hi int64) {
	t.Helper()
	if e := b.Show(a, lo, hi); e != nil {
		t.Fatal(lo, hi, e)
	}
}

// is wants an index to be shown, or not.
func is(t *testing.T, b *avail.Buffer, a *cells.Arena, seq int64, want bool) {
	t.Helper()
	if ok, e := b.Is(a, seq); ok != want || e != nil {
		t.Fatal(seq, ok, e)
	}
}

// highest wants Highest to tell this.
func highest(t *testing.T, b *avail.Buffer, a *cells.Arena, lo, hi, want int64) {
	t.Helper()
	if seq, e := b.Highest(a, lo, hi); seq != want || e != nil {
		t.Fatal(lo, hi, seq, want, e)
	}
}

// refused wants all that answers an error to have one, and nothing else, for a range of indexes.
func refused(t *testing.T, b *avail.Buffer, a *cells.Arena, lo, hi int64, want error) {
	t.Helper()
	was, steps := numbers(a), a.Steps()
	ok, e := b.Is(a, lo)
	seq, f := b.Highest(a, lo, hi)
	for _, e := range []error{e, f, b.Show(a, lo, hi)} {
		if !errors.Is(e, want) {
			t.Fatal(lo, hi, e)
		}
	}
	if ok || seq != 0 || !slices.Equal(numbers(a), was) || a.Steps() != steps {
		t.Fatal(lo, hi, ok, seq)
	}
}

// The chapter's example.
func TestExample(t *testing.T) {
	b, a := buffer(t, 4, 0)
	show(t, b, a, 0, 0)
	show(t, b, a, 2, 2)
	highest(t, b, a, 0, 3, 0)
}

// P7.1: New lays a cell for each slot, one behind the other, behind those that are there; each has -1; none is a step.
func TestNew(t *testing.T) {
	for shift := range api.MaxShift + 1 {
		n := 1 << shift
		a := arena(t, 3, 77)
		b, e := avail.New(a, size(t, int64(n)))
		if b == nil || e != nil || a.Len() != 3+n || a.Steps() != 0 {
			t.Fatal(n, e, a.Len(), a.Steps())
		}
		l := numbers(a)
		if !slices.Equal(l[:3], []int64{77, 77, 77}) || slices.ContainsFunc(l[3:], func(v int64) bool { return v != -1 }) {
			t.Fatal(n)
		}
		for _, seq := range []int64{0, 1, int64(n) - 1, int64(n), api.MaxSeq} {
			is(t, b, a, seq, false)
			highest(t, b, a, seq, api.MaxSeq, seq-1)
		}
	}
}

// The zero size has one slot.
func TestNewZeroSize(t *testing.T) {
	a := cells.New()
	b, e := avail.New(a, pow.Size{})
	if e != nil || a.Len() != 1 || b.Cell(5) != 0 || b.Round(5) != 5 {
		t.Fatal(e, a.Len())
	}
	show(t, b, a, 3, 3)
	highest(t, b, a, 3, 9, 3)
}

// P7.1: buffers of one arena have cells of their own.
func TestTwo(t *testing.T) {
	a := cells.New()
	b, _ := avail.New(a, size(t, 2))
	c, _ := avail.New(a, size(t, 4))
	if b == c || b.Cell(0) != 0 || b.Cell(1) != 1 || c.Cell(0) != 2 || c.Cell(3) != 5 || a.Len() != 6 {
		t.Fatal(b.Cell(0), c.Cell(0), a.Len())
	}
	show(t, b, a, 0, 1)
	highest(t, c, a, 0, 3, -1)
	show(t, c, a, 4, 7)
	highest(t, b, a, 0, 1, 1)
	if l := numbers(a); !slices.Equal(l, []int64{0, 0, 1, 1, 1, 1}) {
		t.Fatal(l)
	}
}

// Errors: a buffer that just fits is laid, one that doesn't isn't, and lays no cell.
func TestNewMany(t *testing.T) {
	for _, n := range []int64{1, 2, 1024, most} {
		for over := range min(int(n), 2) + 1 {
			a := arena(t, api.MaxCells-int(n)+over, 5)
			was := a.Len()
			b, e := avail.New(a, size(t, n))
			if over == 0 {
				if e != nil || a.Len() != api.MaxCells || b.Cell(-1) != api.MaxCells-1 {
					t.Fatal(n, e, a.Len())
				}
				show(t, b, a, 0, n-1)
				highest(t, b, a, 0, api.MaxSeq, n-1)
				show(t, b, a, 1, n)
				highest(t, b, a, 1, api.MaxSeq, n)
			} else if b != nil || !errors.Is(e, api.ErrMany) || a.Len() != was {
				t.Fatal(n, over, b, e, a.Len())
			}
		}
	}
}

// P7.1: Cell and Round are the slot's cell, and the round that it has when an index is shown, of any number.
func TestCellRound(t *testing.T) {
	for _, n := range []int64{1, 2, 8, most} {
		for _, ahead := range []int{0, 1, 5} {
			b, a := buffer(t, n, ahead)
			s := size(t, n)
			for _, seq := range append([]int64{0, 1, 2, 7, 8, 9, 21, most, most + 1, api.MaxSeq - 1, api.MaxSeq}, none...) {
				if b.Cell(seq) != ahead+s.Index(seq) || b.Round(seq) != s.Round(seq) {
					t.Fatal(n, seq, b.Cell(seq), b.Round(seq))
				}
			}
			if a.Steps() != 0 {
				t.Fatal(n, a.Steps())
			}
		}
	}
}

// P7.1: Show shows the indexes from lo to hi and no others, in their own cells alone, over the ring's end too.
func TestShow(t *testing.T) {
	for _, n := range []int64{1, 2, 4, 8} {
		for _, base := range []int64{0, 1, 3, 1000, api.MaxSeq - 3*n} {
			for lo := base; lo < base+2*n; lo++ {
				for hi := lo; hi < lo+n; hi++ {
					b, a := buffer(t, n, 2)
					want := numbers(a)
					show(t, b, a, lo, hi)
					for seq := lo; seq <= hi; seq++ {
						want[2+seq%n] = seq / n
					}
					if l := numbers(a); !slices.Equal(l, want) {
						t.Fatal(n, lo, hi, l, want)
					}
					for seq := max(0, lo-2*n); seq <= min(hi+2*n, api.MaxSeq); seq++ {
						is(t, b, a, seq, lo <= seq && seq <= hi)
					}
				}
			}
		}
	}
}

// P7.1: Is asks, and changes nothing.
func TestIs(t *testing.T) {
	b, a := buffer(t, 4, 1)
	show(t, b, a, 6, 8)
	was := numbers(a)
	for seq := range int64(20) {
		is(t, b, a, seq, 6 <= seq && seq <= 8)
	}
	is(t, b, a, api.MaxSeq, false)
	if !slices.Equal(numbers(a), was) {
		t.Fatal(numbers(a))
	}
	show(t, b, a, api.MaxSeq, api.MaxSeq)
	is(t, b, a, api.MaxSeq, true)
	is(t, b, a, 8, false)
}

// P7.1: a cell that has an index's round shows it, whoever stored that.
func TestStored(t *testing.T) {
	b, a := buffer(t, 4, 3)
	a.Store(b.Cell(21), b.Round(21))
	is(t, b, a, 21, true)
	highest(t, b, a, 21, 30, 21)
	a.Store(b.Cell(21), b.Round(21)-1)
	is(t, b, a, 21, false)
	is(t, b, a, 17, true)
}

// P7.2: Highest is the last one up to which all are shown, whichever they are.
func TestHighest(t *testing.T) {
	const n = 8
	for _, base := range []int64{0, 5, 1 << 40, api.MaxSeq - n + 1} {
		for shown := range 1 << n {
			b, a := buffer(t, n, 1)
			for i := range int64(n) {
				if shown>>i&1 == 1 {
					show(t, b, a, base+i, base+i)
				}
			}
			was := numbers(a)
			for lo := range int64(n) {
				want := lo - 1
				highest(t, b, a, base+lo, base+lo-1, base+lo-1)
				for hi := lo; hi < n; hi++ {
					if want == hi-1 && shown>>hi&1 == 1 {
						want = hi
					}
					highest(t, b, a, base+lo, base+hi, base+want)
				}
				highest(t, b, a, base+lo, min(base+3*n, api.MaxSeq), base+want)
			}
			if !slices.Equal(numbers(a), was) {
				t.Fatal(base, shown)
			}
		}
	}
}

// P7.2: hi may lie below lo, however far, and many sizes above it; what was shown a round ahead isn't counted.
func TestHighestFar(t *testing.T) {
	b, a := buffer(t, 4, 0)
	for _, hi := range []int64{-1, -2, math.MinInt64} {
		highest(t, b, a, 0, hi, -1)
		highest(t, b, a, api.MaxSeq, hi, api.MaxSeq-1)
	}
	show(t, b, a, 0, 3)
	for _, hi := range []int64{3, 4, 5, 100, api.MaxSeq} {
		highest(t, b, a, 0, hi, 3)
		highest(t, b, a, 2, hi, 3)
		highest(t, b, a, 4, hi, 3)
	}
	show(t, b, a, 4, 5)
	highest(t, b, a, 0, 9, -1)
	highest(t, b, a, 2, 9, 5)
	highest(t, b, a, 5, -1, 4)
}

// P7.2: a ring of the most slots is gone through whole.
func TestHighestMost(t *testing.T) {
	b, a := buffer(t, most, 0)
	show(t, b, a, 7, most+6)
	highest(t, b, a, 7, api.MaxSeq, most+6)
	highest(t, b, a, 6, api.MaxSeq, 5)
}

// P7.3: what is shown stays so, till an index of its slot in another round is shown, further on or ahead.
func TestStays(t *testing.T) {
	for _, n := range []int64{1, 2, 4, 8} {
		for seq := range 3 * n {
			for other := range 6 * n {
				b, a := buffer(t, n, 1)
				show(t, b, a, seq, seq)
				show(t, b, a, seq, seq)
				is(t, b, a, seq, true)
				show(t, b, a, other, other)
				is(t, b, a, seq, other%n != seq%n || other == seq)
				is(t, b, a, other, true)
			}
		}
	}
}

// Errors: 0 and MaxSeq are indexes, what lies below or above is none.
func TestRange(t *testing.T) {
	b, a := buffer(t, 4, 1)
	show(t, b, a, 2, 4)
	for _, lo := range none {
		// Of several errors, the first that the chapter names.
		for _, hi := range []int64{lo, 2, 0, -1, math.MinInt64, api.MaxSeq, math.MaxInt64} {
			refused(t, b, a, lo, hi, api.ErrRange)
			refused(t, b, cells.New(), lo, hi, api.ErrRange)
		}
	}
	show(t, b, a, 0, 0)
	show(t, b, a, api.MaxSeq, api.MaxSeq)
	is(t, b, a, 0, false)
	is(t, b, a, api.MaxSeq, true)
	highest(t, b, a, api.MaxSeq, api.MaxSeq, api.MaxSeq)
}

// Errors: hi of Show is no less than lo, less than the slots above it, and MaxSeq at most.
func TestShowArg(t *testing.T) {
	for _, n := range []int64{1, 2, 8} {
		for _, c := range []struct {
			lo, hi int64
			wrong  bool
		}{
			{0, n - 1, false}, {0, n, true}, {5, n + 4, false}, {5, n + 5, true}, {5, n + 6, true},
			{0, -1, true}, {5, 4, true}, {5, 0, true}, {5, -1, true},
			{0, math.MaxInt64, true}, {0, math.MinInt64, true}, {api.MaxSeq, math.MinInt64, true}, {api.MaxSeq, math.MaxInt64, true},
			{api.MaxSeq - n + 1, api.MaxSeq, false}, {api.MaxSeq, api.MaxSeq, false},
			{api.MaxSeq, api.MaxSeq + 1, true}, {api.MaxSeq - n/2, api.MaxSeq + 1, true}, {api.MaxSeq, api.MaxSeq - 1, true},
		} {
			b, a := buffer(t, n, 1)
			was := numbers(a)
			e := b.Show(a, c.lo, c.hi)
			if !c.wrong {
				if e != nil {
					t.Fatal(n, c.lo, c.hi, e)
				}
				continue
			}
			f := b.Show(cells.New(), c.lo, c.hi)
			if !errors.Is(e, api.ErrArg) || !errors.Is(f, api.ErrArg) || !slices.Equal(numbers(a), was) || a.Steps() != 0 {
				t.Fatal(n, c.lo, c.hi, e, f)
			}
		}
	}
}

// Errors: hi of Highest is MaxSeq at most.
func TestHighestArg(t *testing.T) {
	b, a := buffer(t, 4, 1)
	show(t, b, a, 0, 3)
	steps := a.Steps()
	for _, lo := range []int64{0, 1, 9, api.MaxSeq - 1, api.MaxSeq} {
		for _, hi := range []int64{api.MaxSeq + 1, api.MaxSeq + 2, math.MaxInt64} {
			seq, e := b.Highest(a, lo, hi)
			_, f := b.Highest(cells.New(), lo, hi)
			if seq != 0 || !errors.Is(e, api.ErrArg) || !errors.Is(f, api.ErrArg) || a.Steps() != steps {
				t.Fatal(lo, hi, seq, e, f)
			}
		}
	}
}

// Errors: nil is ErrNil, ahead of all others; else it is -1.
func TestNil(t *testing.T) {
	var nobody *avail.Buffer
	b, a := buffer(t, 4, 1)
	show(t, b, a, 0, 1)
	if c, e := avail.New(nil, size(t, 4)); c != nil || !errors.Is(e, api.ErrNil) {
		t.Fatal(c, e)
	}
	for _, lo := range append([]int64{0, 1, api.MaxSeq}, none...) {
		for _, hi := range []int64{lo, 0, math.MinInt64, math.MaxInt64} {
			refused(t, nobody, a, lo, hi, api.ErrNil)
			refused(t, b, nil, lo, hi, api.ErrNil)
			refused(t, nobody, nil, lo, hi, api.ErrNil)
		}
		if nobody.Cell(lo) != -1 || nobody.Round(lo) != -1 {
			t.Fatal(lo, nobody.Cell(lo), nobody.Round(lo))
		}
	}
}

// Errors: an arena that has none of the cells is refused.
func TestOtherArena(t *testing.T) {
	b, a := buffer(t, 4, 3)
	show(t, b, a, 0, 3)
	for n := range 4 {
		for lo := range int64(8) {
			if b.Cell(lo) >= n {
				refused(t, b, arena(t, n, -1), lo, lo, api.ErrNone)
				refused(t, b, arena(t, n, 0), lo, lo+3, api.ErrNone)
			}
		}
	}
	highest(t, b, a, 0, 9, 3)
	highest(t, b, cells.New(), 5, 4, 4)
}

// Errors: of an arena that has some of the cells, those alone are asked that are needed; what is refused is no step, and stores nothing.
func TestShortArena(t *testing.T) {
	const n = 8
	b, _ := buffer(t, n, 0)
	for have := range n {
		for _, v := range []int64{-1, 0} {
			for lo := range int64(n) {
				for hi := lo; hi < lo+n; hi++ {
					a := arena(t, have, v)
					was := numbers(a)
					short := hi >= int64(have)
					e := b.Show(a, lo, hi)
					if short != errors.Is(e, api.ErrNone) || !short && e != nil {
						t.Fatal(have, lo, hi, e)
					}
					if short && (!slices.Equal(numbers(a), was) || a.Steps() != 0) {
						t.Fatal(have, lo, hi, numbers(a), a.Steps())
					}
				}
				a := arena(t, have, v)
				seq, e := b.Highest(a, lo, n-1)
				switch {
				case lo >= int64(have) || v == 0:
					if seq != 0 || !errors.Is(e, api.ErrNone) || a.Steps() != 0 {
						t.Fatal(have, v, lo, seq, e, a.Steps())
					}
				case seq != lo-1 || e != nil:
					t.Fatal(have, v, lo, seq, e)
				}
			}
		}
	}
}

// R1: a buffer that New didn't make panics nowhere.
func TestZero(t *testing.T) {
	b := new(avail.Buffer)
	for _, a := range []*cells.Arena{nil, cells.New(), arena(t, 2, 5)} {
		for _, seq := range append([]int64{0, 1, api.MaxSeq}, none...) {
			b.Cell(seq)
			b.Round(seq)
			b.Is(a, seq)
			b.Show(a, seq, seq)
			b.Highest(a, seq, api.MaxSeq)
		}
	}
}

// P7.1, P7.2, P7.3: whatever is shown behind each other, each slot shows the last index that was shown of it.
func TestAll(t *testing.T) {
	const long, kinds = 5, 8
	runs := 1
	for range long {
		runs *= kinds
	}
	for _, n := range []int64{1, 2, 4} {
		for run := range runs {
			b, a := buffer(t, n, 1)
			last := slices.Repeat([]int64{-1}, int(n))
			for i, rest := 0, run; i < long; i, rest = i+1, rest/kinds {
				lo := int64(rest % kinds)
				hi := lo + (lo+int64(i))%n
				show(t, b, a, lo, hi)
				for seq := lo; seq <= hi; seq++ {
					last[seq%n] = seq
				}
			}
			for seq := range int64(12) {
				is(t, b, a, seq, last[seq%n] == seq)
				want := seq
				for want < 12 && last[want%n] == want {
					want++
				}
				highest(t, b, a, seq, 11, want-1)
			}
		}
	}
}
