package multi_test

import (
	"errors"
	"math"
	"noria/api"
	"noria/cells"
	"noria/fault"
	"noria/multi"
	"slices"
	"testing"
)

const most = 1 << api.MaxShift

// edges are numbers near the ends of their type, and near the bounds that the document names.
var edges = []int64{math.MinInt64, math.MinInt64 + 1, -api.MaxSeq, -2, -1, 0, 1, api.MaxSeq, api.MaxSeq + 1, math.MaxInt64 - 1, math.MaxInt64}

// sequencer is one of so many slots, and its arena, in which the cells ahead of its own hold it back: they have some numbers.
func sequencer(t *testing.T, n int, held ...int64) (*multi.Sequencer, *cells.Arena) {
	t.Helper()
	a := cells.New()
	for _, v := range held {
		a.Alloc(v)
	}
	s, e := multi.New(a, n)
	if s == nil || e != nil {
		t.Fatal(n, s, e)
	}
	for id := range held {
		if e := s.Gate().Add(id); e != nil {
			t.Fatal(id, e)
		}
	}
	return s, a
}

// numbers are what an arena's cells have. It asks a clone: a load is a step.
func numbers(a *cells.Arena) []int64 {
	b := a.Clone()
	l := make([]int64, 0, b.Len())
	for id := range b.Len() {
		v, _ := b.Load(id)
		l = append(l, v)
	}
	return l
}

// number is what a cell has, without a step.
func number(a *cells.Arena, id int) int64 {
	v, _ := a.Clone().Load(id)
	return v
}

// all is what may be told of a sequencer and its arena without a step.
func all(s *multi.Sequencer, a *cells.Arena) []int64 {
	l := []int64{int64(s.Cursor()), int64(s.Cached()), int64(s.Shown().Cell(0)), int64(a.Steps()), int64(s.Gate().Len())}
	for _, id := range s.Gate().Cells() {
		l = append(l, int64(id))
	}
	return append(l, numbers(a)...)
}

// claim wants a claim to come up to this index.
func claim(t *testing.T, s *multi.Sequencer, n int, want int64) {
	t.Helper()
	if last, e := s.Claim(n); last != want || e != nil || s.Claimed() != want {
		t.Fatal(n, last, want, e, s.Claimed())
	}
}

// filled wants a claim to be ErrFull.
func filled(t *testing.T, s *multi.Sequencer, n int) {
	t.Helper()
	was := s.Claimed()
	if last, e := s.Claim(n); last != 0 || !errors.Is(e, api.ErrFull) || s.Claimed() != was {
		t.Fatal(n, last, e, was, s.Claimed())
	}
}

// publish wants indexes to be published.
func publish(t *testing.T, s *multi.Sequencer, lo, hi int64) {
	t.Helper()
	if e := s.Publish(lo, hi); e != nil {
		t.Fatal(lo, hi, e)
	}
}

// highest wants all from an index up to another one to be published, and no more.
func highest(t *testing.T, s *multi.Sequencer, lo, want int64) {
	t.Helper()
	if hi, e := s.Highest(lo); hi != want || e != nil {
		t.Fatal(lo, hi, want, e)
	}
}

// remain wants so many to remain.
func remain(t *testing.T, s *multi.Sequencer, want int64) {
	t.Helper()
	if n, e := s.Remaining(); n != want || e != nil {
		t.Fatal(n, want, e)
	}
}

// try wants a Try to begin.
func try(t *testing.T, s *multi.Sequencer, n int) multi.Try {
	t.Helper()
	y, e := s.Try(n)
	if e != nil {
		t.Fatal(n, e)
	}
	goes(t, y)
	return y
}

// steps wants a Try to go on so often.
func steps(t *testing.T, y multi.Try, n int) multi.Try {
	t.Helper()
	for range n {
		goes(t, y)
		next, e := y.Step()
		if e != nil {
			t.Fatal(e)
		}
		y = next
	}
	return y
}

// goes wants a Try not to be done.
func goes(t *testing.T, y multi.Try) {
	t.Helper()
	if y.Done() || y.Full() || y.Last() != -1 {
		t.Fatal(y.Done(), y.Full(), y.Last())
	}
}

// got wants a Try to have claimed up to this index; -1: it is full.
func got(t *testing.T, y multi.Try, want int64) {
	t.Helper()
	if !y.Done() || y.Full() != (want == -1) || y.Last() != want {
		t.Fatal(y.Done(), y.Full(), y.Last(), want)
	}
}

// store lets a cell of an arena have a number.
func store(t *testing.T, a *cells.Arena, id int, v int64) {
	t.Helper()
	if e := a.Store(id, v); e != nil {
		t.Fatal(id, e)
	}
}

// The chapter's examples.
func TestExamples(t *testing.T) {
	s, _ := sequencer(t, 4)
	claim(t, s, 1, 0)
	claim(t, s, 1, 1)
	publish(t, s, 1, 1)
	highest(t, s, 0, -1)
	publish(t, s, 0, 0)
	highest(t, s, 0, 1)

	s, _ = sequencer(t, 4)
	x, y := steps(t, try(t, s, 1), 1), steps(t, try(t, s, 1), 1)
	got(t, steps(t, x, 2), 0)
	y = steps(t, y, 2)
	goes(t, y)
	got(t, steps(t, y, 3), 1)
}

// P10.1: New lays a cell for the cursor, one for what was seen, and one for each slot, all -1, behind those that are there.
func TestNew(t *testing.T) {
	for shift := range api.MaxShift + 1 {
		n := 1 << shift
		a := cells.New()
		a.Alloc(77)
		a.Alloc(78)
		s, e := multi.New(a, n)
		if s == nil || e != nil || a.Len() != n+4 || a.Steps() != 0 || s.Gate().Len() != 0 {
			t.Fatal(n, e, a.Len(), a.Steps())
		}
		own := []int{s.Cursor(), s.Cached()}
		for seq := range int64(n) {
			own = append(own, s.Shown().Cell(seq))
		}
		slices.Sort(own)
		l := numbers(a)
		for i, id := range own {
			if id != i+2 || l[id] != -1 {
				t.Fatal(n, i, id, l[id])
			}
		}
		if l[0] != 77 || l[1] != 78 || s.Claimed() != -1 {
			t.Fatal(n, l[:2], s.Claimed())
		}
		remain(t, s, int64(n))
		claim(t, s, n, int64(n-1))
	}
}

// P10.1: sequencers of one arena have cells, groups and numbers of their own.
func TestTwo(t *testing.T) {
	a := cells.New()
	s, _ := multi.New(a, 2)
	r, _ := multi.New(a, 4)
	if a.Len() != 10 || s.Shown() == r.Shown() {
		t.Fatal(a.Len())
	}
	was := numbers(a)[:4]
	claim(t, r, 3, 2)
	publish(t, r, 0, 1)
	r.Gate().Add(s.Cursor())
	if s.Claimed() != -1 || s.Gate().Len() != 0 || !slices.Equal(numbers(a)[:4], was) {
		t.Fatal(s.Claimed(), s.Gate().Cells(), numbers(a))
	}
	remain(t, r, 1)
	claim(t, s, 2, 1)
	highest(t, s, 0, -1)
	highest(t, r, 0, 1)
	remain(t, r, 3)
}

// Errors: New's, the first that the chapter names; nothing is laid.
func TestNewRefused(t *testing.T) {
	for _, n := range []int{0, -1, 3, 6, most + 1, most - 1, 2 * most, math.MinInt, math.MaxInt} {
		a := cells.New()
		if s, e := multi.New(a, n); s != nil || !errors.Is(e, api.ErrSize) || a.Len() != 0 {
			t.Fatal(n, s, e, a.Len())
		}
		if s, e := multi.New(nil, n); s != nil || !errors.Is(e, api.ErrNil) {
			t.Fatal(n, s, e)
		}
	}
	if s, e := multi.New(nil, 4); s != nil || !errors.Is(e, api.ErrNil) {
		t.Fatal(s, e)
	}
}

// Errors: New wants a size of cells and two more; if there are fewer, none is laid.
func TestNewMany(t *testing.T) {
	full := cells.New()
	for range api.MaxCells - 10 {
		full.Alloc(0)
	}
	for _, n := range []int{1, 2, 4, 8} {
		a := full.Clone()
		for a.Len() < api.MaxCells-n-2 {
			a.Alloc(0)
		}
		if s, e := multi.New(a.Clone(), n); s == nil || e != nil {
			t.Fatal(n, e)
		}
		for less := 1; less <= n+2; less++ {
			a.Alloc(0)
			if s, e := multi.New(a, n); s != nil || !errors.Is(e, api.ErrMany) || a.Len() != api.MaxCells-n-2+less {
				t.Fatal(n, less, s, e, a.Len())
			}
		}
		if s, e := multi.New(a, n+8); s != nil || (n != 8 && !errors.Is(e, api.ErrSize)) {
			t.Fatal(n, s, e)
		}
	}
	if s, e := multi.New(full, most); s != nil || !errors.Is(e, api.ErrMany) || full.Len() != api.MaxCells-10 {
		t.Fatal(s, e, full.Len())
	}
}

// Errors: nil is ErrNil, ahead of all others; else -1 and nil.
func TestNil(t *testing.T) {
	var s *multi.Sequencer
	if s.Cursor() != -1 || s.Cached() != -1 || s.Shown() != nil || s.Gate() != nil || s.Claimed() != -1 {
		t.Fatal(s.Cursor(), s.Cached(), s.Shown(), s.Gate(), s.Claimed())
	}
	for _, n := range []int{0, 1, -1, math.MinInt, math.MaxInt} {
		last, e := s.Claim(n)
		y, f := s.Try(n)
		hi, g := s.Highest(int64(n))
		left, h := s.Remaining()
		for _, e := range []error{e, f, g, h, s.Publish(int64(n), 1)} {
			if !errors.Is(e, api.ErrNil) {
				t.Fatal(n, e)
			}
		}
		if last != 0 || y != (multi.Try{}) || hi != 0 || left != 0 {
			t.Fatal(n, last, y, hi, left)
		}
	}
}

// R1: a zero sequencer doesn't panic, nor does a Try of it.
func TestZeroSequencer(t *testing.T) {
	var s multi.Sequencer
	for range 3 {
		s.Cursor()
		s.Cached()
		s.Shown()
		s.Claim(1)
		s.Gate().Add(1)
		s.Claim(1)
		y, _ := s.Try(1)
		y.Step()
		s.Publish(0, 0)
		s.Publish(1, 1)
		s.Highest(0)
		s.Claimed()
		s.Remaining()
	}
}

// R1: cells that somebody else wrote, who mustn't, let no call panic, and each of them ends.
func TestForeign(t *testing.T) {
	for _, cursor := range edges {
		for _, cached := range edges {
			s, a := sequencer(t, 4, cached)
			store(t, a, s.Cursor(), cursor)
			store(t, a, s.Cached(), cached)
			store(t, a, s.Shown().Cell(0), cursor)
			s.Claim(4)
			s.Claimed()
			s.Remaining()
			for _, seq := range edges {
				s.Publish(seq, seq)
				s.Highest(seq)
			}
		}
	}
}

// P10.1: Gate is the sequencer's own group: who is put in holds it back, who is taken out doesn't any more.
func TestGate(t *testing.T) {
	s, a := sequencer(t, 2)
	id, _ := a.Alloc(-1)
	g := s.Gate()
	if g != s.Gate() || g.Len() != 0 || s.Shown() != s.Shown() {
		t.Fatal(g.Cells())
	}
	g.Add(id)
	claim(t, s, 2, 1)
	filled(t, s, 1)
	g.Drop(id)
	claim(t, s, 2, 3)
}

// P10.1: indexes are claimed from 0 on, in order, each once; the cursor's cell has the last one.
func TestClaimOrder(t *testing.T) {
	s, a := sequencer(t, 8)
	want := int64(-1)
	for round := range 50 {
		n := round*5%8 + 1
		want += int64(n)
		claim(t, s, n, want)
		if number(a, s.Cursor()) != want {
			t.Fatal(round, number(a, s.Cursor()), want)
		}
	}
}

// P10.1: Claim changes the cells of the cursor and of what was seen alone, Publish those of the indexes' slots alone.
func TestOwnCells(t *testing.T) {
	s, a := sequencer(t, 4, -1, 5)
	was := numbers(a)
	claim(t, s, 3, 2)
	was[s.Cursor()] = 2
	if !slices.Equal(numbers(a), was) {
		t.Fatal(numbers(a), was)
	}
	publish(t, s, 1, 2)
	was[s.Shown().Cell(1)], was[s.Shown().Cell(2)] = 0, 0
	if !slices.Equal(numbers(a), was) {
		t.Fatal(numbers(a), was)
	}
	store(t, a, 0, 2)
	claim(t, s, 2, 4)
	publish(t, s, 4, 4)
	was[0], was[s.Cursor()], was[s.Cached()], was[s.Shown().Cell(4)] = 2, 4, 2, 1
	if !slices.Equal(numbers(a), was) {
		t.Fatal(numbers(a), was)
	}
}

// P10.1: each index is published by itself, in whatever order, and stays so till one of its slot in another round is.
func TestPublish(t *testing.T) {
	s, a := sequencer(t, 4)
	claim(t, s, 4, 3)
	for i, order := range [][]int64{{3, 1, 0, 2}, {5, 4, 7, 6}, {8, 11, 9, 10}} {
		if i > 0 {
			claim(t, s, 4, int64(4*i+3))
		}
		var in []int64
		for _, seq := range order {
			publish(t, s, seq, seq)
			in = append(in, seq)
			for _, seq := range order {
				if ok, e := s.Shown().Is(a, seq); ok != slices.Contains(in, seq) || e != nil {
					t.Fatal(seq, ok, e, in)
				}
			}
		}
		highest(t, s, int64(4*i), int64(4*i+3))
	}
}

// P10.1: Publish of a span publishes all of it, over the end of a round, too; what is published may be published again.
func TestPublishSpan(t *testing.T) {
	for lo := range int64(8) {
		for hi := lo; hi < lo+4; hi++ {
			s, a := sequencer(t, 4)
			for range 3 {
				s.Claim(4)
			}
			for range 2 {
				publish(t, s, lo, hi)
				for seq := range int64(12) {
					if ok, e := s.Shown().Is(a, seq); ok != (lo <= seq && seq <= hi) || e != nil {
						t.Fatal(lo, hi, seq, ok, e)
					}
				}
			}
		}
	}
}

// Errors: Publish refuses what isn't claimed, what is no span, and more than all slots; nothing is changed.
func TestPublishRefused(t *testing.T) {
	for _, n := range []int64{1, 2, 4, 8} {
		for claimed := int64(-1); claimed < 2*n; claimed++ {
			s, a := sequencer(t, int(n))
			for i := range claimed + 1 {
				claim(t, s, 1, i)
			}
			was := all(s, a)
			ends := append([]int64{2, 3, claimed - n, claimed - n + 1, claimed - n + 2, claimed - 1, claimed, claimed + 1, claimed + 2, claimed + n, n - 1, n, n + 1}, edges...)
			for _, lo := range ends {
				for _, hi := range ends {
					if lo >= 0 && lo <= hi && hi <= claimed && hi-lo < n {
						continue
					}
					if e := s.Publish(lo, hi); !errors.Is(e, api.ErrArg) || !slices.Equal(all(s, a), was) {
						t.Fatal(n, claimed, lo, hi, e)
					}
				}
			}
			if claimed >= 0 {
				publish(t, s, max(0, claimed-n+1), claimed)
			}
		}
	}
}

// Errors: Claim and Try refuse numbers of indexes that there can't be, when there is no room, too; nothing is changed.
func TestClaimRefused(t *testing.T) {
	for _, n := range []int{1, 2, 8, most} {
		s, a := sequencer(t, n, -1)
		for isFull := range 2 {
			was := all(s, a)
			for _, bad := range []int{0, -1, n + 1, 2*n + 1, most + 1, 1 << 32, math.MinInt, math.MaxInt} {
				last, e := s.Claim(bad)
				y, f := s.Try(bad)
				if last != 0 || y != (multi.Try{}) || !errors.Is(e, api.ErrArg) || !errors.Is(f, api.ErrArg) || !slices.Equal(all(s, a), was) {
					t.Fatal(n, bad, last, y, e, f)
				}
			}
			if isFull == 0 {
				claim(t, s, n, int64(n-1))
			}
		}
	}
}

// P10.2: a claim is ErrFull just if fewer remain: all who hold back count, and what isn't published doesn't.
func TestHeldBack(t *testing.T) {
	s, a := sequencer(t, 4, -1, -1, -1)
	claim(t, s, 4, 3)
	for i := range int64(20) {
		filled(t, s, 1)
		store(t, a, 1, i)
		filled(t, s, 1)
		store(t, a, 0, i)
		filled(t, s, 1)
		store(t, a, 2, i)
		filled(t, s, 2)
		claim(t, s, 1, i+4)
	}
}

// P10.2: where nobody holds back, all slots remain, whatever is claimed, and published.
func TestNobody(t *testing.T) {
	s, _ := sequencer(t, 4)
	for i := range int64(20) {
		remain(t, s, 4)
		claim(t, s, int(i%4)+1, s.Claimed()+i%4+1)
	}
}

// P10.2: a ring of one slot has one index at a time.
func TestOneSlot(t *testing.T) {
	s, a := sequencer(t, 1, -1)
	for i := range int64(9) {
		claim(t, s, 1, i)
		filled(t, s, 1)
		publish(t, s, i, i)
		highest(t, s, i, i)
		filled(t, s, 1)
		store(t, a, 0, i)
	}
}

// P10.2: who begins to hold back with what is claimed then holds back from there on; a room that was seen ahead of it stays.
func TestBegins(t *testing.T) {
	s, a := sequencer(t, 4, -1)
	claim(t, s, 2, 1)
	id, _ := a.Alloc(1)
	s.Gate().Add(id)
	remain(t, s, 2)
	store(t, a, 0, 1)
	remain(t, s, 4)
	claim(t, s, 4, 5)
	filled(t, s, 1)
	store(t, a, 0, 5)
	filled(t, s, 1)
	store(t, a, id, 3)
	filled(t, s, 3)
	claim(t, s, 2, 7)
}

// Errors: MaxSeq is the last index; beyond it a claim is ErrExhausted, ahead of ErrFull and ErrNone, and behind ErrArg. (No run of
// claims comes so far: the cursor's cell is written.)
func TestExhausted(t *testing.T) {
	for left := range int64(5) {
		s, a := sequencer(t, 4, -1)
		s.Gate().Add(999)
		store(t, a, s.Cursor(), api.MaxSeq-left)
		for n := 1; n <= 4; n++ {
			y := try(t, s, n)
			was := numbers(a)
			next, e := y.Step()
			last, f := s.Claim(n)
			if int64(n) <= left {
				if e != nil || last != 0 || !errors.Is(f, api.ErrNone) || !slices.Equal(numbers(a), was) {
					t.Fatal(left, n, e, last, f)
				}
				continue
			}
			if next != y || !errors.Is(e, api.ErrExhausted) || last != 0 || !errors.Is(f, api.ErrExhausted) || !slices.Equal(numbers(a), was) {
				t.Fatal(left, n, e, last, f)
			}
			goes(t, next)
		}
		if _, e := s.Claim(5); !errors.Is(e, api.ErrArg) {
			t.Fatal(e)
		}
		s.Gate().Drop(999)
		if _, e := s.Claim(4); left == 4 && !errors.Is(e, api.ErrFull) || left < 4 && !errors.Is(e, api.ErrExhausted) {
			t.Fatal(left, e)
		}
		s.Gate().Drop(0)
		if left > 0 {
			claim(t, s, int(left), api.MaxSeq)
		}
		if _, e := s.Claim(1); !errors.Is(e, api.ErrExhausted) {
			t.Fatal(left, e)
		}
		publish(t, s, api.MaxSeq-3, api.MaxSeq)
		highest(t, s, api.MaxSeq-3, api.MaxSeq)
		highest(t, s, api.MaxSeq, api.MaxSeq)
		highest(t, s, api.MaxSeq-4, api.MaxSeq-5)
		if e := s.Publish(api.MaxSeq, api.MaxSeq+1); !errors.Is(e, api.ErrArg) {
			t.Fatal(e)
		}
	}
}

// P10.2: Highest goes up to what is claimed, and no further, from any index on.
func TestHighest(t *testing.T) {
	s, _ := sequencer(t, 8)
	for lo := range int64(12) {
		highest(t, s, lo, lo-1)
	}
	claim(t, s, 6, 5)
	publish(t, s, 0, 2)
	publish(t, s, 4, 5)
	for lo, want := range []int64{2, 2, 2, 2, 5, 5, 5, 6, 7, 8} {
		highest(t, s, int64(lo), want)
	}
	highest(t, s, api.MaxSeq, api.MaxSeq-1)
	claim(t, s, 8, 13)
	publish(t, s, 6, 12)
	for lo, want := range []int64{-1, 0, 1, 2, 3, 12, 12, 12, 12, 12, 12, 12, 12, 12, 13, 14} {
		highest(t, s, int64(lo), want)
	}
}

// Errors: Highest refuses what is no index; nothing is changed.
func TestHighestRefused(t *testing.T) {
	s, a := sequencer(t, 4)
	claim(t, s, 4, 3)
	publish(t, s, 0, 3)
	was := all(s, a)
	for _, lo := range []int64{-1, -2, math.MinInt64, api.MaxSeq + 1, math.MaxInt64} {
		if hi, e := s.Highest(lo); hi != 0 || !errors.Is(e, api.ErrRange) || !slices.Equal(all(s, a), was) {
			t.Fatal(lo, hi, e)
		}
	}
}

// P10.3: what is published later than what lies behind it holds back Highest till then, in whatever order all are published.
func TestLater(t *testing.T) {
	const n = 5
	order := []int64{0, 1, 2, 3, 4}
	var orders func(at int)
	runs := 0
	orders = func(at int) {
		if at < n {
			for i := at; i < n; i++ {
				order[at], order[i] = order[i], order[at]
				orders(at + 1)
				order[at], order[i] = order[i], order[at]
			}
			return
		}
		runs++
		s, _ := sequencer(t, 8)
		claim(t, s, n, n-1)
		for i, seq := range order {
			publish(t, s, seq, seq)
			want := int64(-1)
			for slices.Contains(order[:i+1], want+1) {
				want++
			}
			highest(t, s, 0, want)
		}
	}
	orders(0)
	if runs != 120 {
		t.Fatal(runs)
	}
}

// P10.2: Remaining tells of the least as it is now, whatever was seen last.
func TestRemaining(t *testing.T) {
	s, a := sequencer(t, 8, -1, -1)
	remain(t, s, 8)
	claim(t, s, 3, 2)
	remain(t, s, 5)
	publish(t, s, 0, 2)
	remain(t, s, 5)
	store(t, a, 0, 2)
	remain(t, s, 5)
	store(t, a, 1, 1)
	remain(t, s, 7)
	claim(t, s, 7, 9)
	remain(t, s, 0)
	store(t, a, 1, 2)
	remain(t, s, 1)
	s.Gate().Drop(0)
	store(t, a, 1, 7)
	remain(t, s, 6)
	s.Gate().Drop(1)
	remain(t, s, 8)
}

// P10.2, R6: cells may have any number; what remains is from 0 to all slots, and nothing is reckoned beyond the ends of its type.
func TestRemainingEdges(t *testing.T) {
	for _, n := range []int64{1, 2, 8, most} {
		for _, to := range []int64{-1, 0, 5, most, api.MaxSeq - 1, api.MaxSeq} {
			for _, v := range edges {
				s, a := sequencer(t, int(n), v)
				store(t, a, s.Cursor(), to)
				want := n
				if v < to {
					want = max(0, n-(to-max(v, -most-1)))
				}
				remain(t, s, want)
				for _, k := range []int64{1, want, want + 1, n} {
					if k < 1 || k > n || to+k > api.MaxSeq {
						continue
					}
					store(t, a, s.Cursor(), to)
					store(t, a, s.Cached(), math.MinInt64)
					if last, e := s.Claim(int(k)); (e == nil) != (k <= want) || e == nil && last != to+k || e != nil && !errors.Is(e, api.ErrFull) {
						t.Fatal(n, to, v, k, last, e)
					}
				}
			}
		}
	}
}

// P10.2: Remaining and Highest write nothing: what was seen last stays, though they see more.
func TestNoWrites(t *testing.T) {
	for g := range api.MaxGroup + 1 {
		s, a := sequencer(t, 4, slices.Repeat([]int64{2}, g)...)
		claim(t, s, 3, 2)
		publish(t, s, 0, 1)
		was := numbers(a)
		for range 3 {
			remain(t, s, 4)
			highest(t, s, 0, 1)
			if s.Claimed() != 2 || !slices.Equal(numbers(a), was) {
				t.Fatal(g, s.Claimed(), numbers(a))
			}
		}
	}
}

// P10.4: a Claim is a Try whose steps are done at once: it looks only when what was seen last isn't enough, or lies above what was
// claimed, and remembers what it saw only if that is enough.
func TestCached(t *testing.T) {
	s, a := sequencer(t, 4, -1)
	wants := func(n int, last int64, steps int, cached int64) {
		t.Helper()
		was := a.Steps()
		x, e := s.Claim(n)
		if last == -1 && (x != 0 || !errors.Is(e, api.ErrFull)) || last != -1 && (x != last || e != nil) {
			t.Fatal(x, last, e)
		}
		if a.Steps()-was != steps || number(a, s.Cached()) != cached {
			t.Fatal(last, a.Steps()-was, number(a, s.Cached()))
		}
	}
	wants(3, 2, 3, -1)
	wants(1, 3, 3, -1)
	wants(1, -1, 3, -1)
	store(t, a, 0, 2)
	wants(4, -1, 3, -1)
	wants(1, 4, 5, 2)
	wants(2, 6, 3, 2)
	store(t, a, 0, 6)
	wants(1, 7, 5, 6)
	wants(3, 10, 3, 6)
	store(t, a, 0, math.MaxInt64)
	wants(2, 12, 5, 10)
	// Above what was claimed: as a Try sees it that read the cursor's cell long ago.
	store(t, a, 0, 12)
	store(t, a, s.Cached(), 12)
	wants(1, 13, 3, 12)
	store(t, a, 0, 13)
	store(t, a, s.Cached(), 14)
	wants(1, 14, 5, 13)
}

// P10.4: each Step is one of the arena: the cursor's cell, what was seen last, and the swap, if that is enough.
func TestTryEnough(t *testing.T) {
	for n := 1; n <= 4; n++ {
		s, a := sequencer(t, 4, -1, -1)
		y := try(t, s, n)
		for i := range 3 {
			if a.Steps() != i || number(a, s.Cursor()) != -1 {
				t.Fatal(n, i, a.Steps(), numbers(a))
			}
			y = steps(t, y, 1)
		}
		for range 3 {
			got(t, y, int64(n-1))
			if a.Steps() != 3 || number(a, s.Cursor()) != int64(n-1) || number(a, s.Cached()) != -1 {
				t.Fatal(n, a.Steps(), numbers(a))
			}
			y, _ = y.Step()
		}
	}
}

// P10.4: else the cells of the group are read, one at each step, what was seen last is stored, and then the cursor's is swapped.
func TestTryLooks(t *testing.T) {
	for g := range api.MaxGroup + 1 {
		s, a := sequencer(t, 4, slices.Repeat([]int64{2}, g)...)
		claim(t, s, 4, 3)
		begun, want := a.Steps(), int64(2)
		if g == 0 {
			want = 3
		}
		y := try(t, s, 3)
		for i := range g + 4 {
			cached := int64(-1)
			if i == g+3 {
				cached = want
			}
			if a.Steps() != begun+i || number(a, s.Cursor()) != 3 || number(a, s.Cached()) != cached {
				t.Fatal(g, i, a.Steps()-begun, numbers(a))
			}
			y = steps(t, y, 1)
		}
		for range 3 {
			got(t, y, 6)
			if a.Steps() != begun+g+4 || number(a, s.Cursor()) != 6 || number(a, s.Cached()) != want {
				t.Fatal(g, a.Steps()-begun, numbers(a))
			}
			y, _ = y.Step()
		}
	}
}

// P10.4: behind the last cell of the group a Try is Full, if the least isn't enough; then nothing is stored.
func TestTryFull(t *testing.T) {
	for g := 1; g <= api.MaxGroup; g++ {
		s, a := sequencer(t, 4, slices.Repeat([]int64{0}, g)...)
		claim(t, s, 4, 3)
		begun, was := a.Steps(), numbers(a)
		y := steps(t, try(t, s, 2), g+2)
		for range 3 {
			got(t, y, -1)
			if a.Steps() != begun+g+2 || !slices.Equal(numbers(a), was) {
				t.Fatal(g, a.Steps()-begun, numbers(a))
			}
			y, _ = y.Step()
		}
		got(t, steps(t, try(t, s, 1), g+4), 4)
	}
}

// P10.4: each cell is read at its own step: what is written behind that isn't seen, what is written ahead of it is.
func TestTryReads(t *testing.T) {
	// The group's order is not that of the cells' numbers.
	order := []int{2, 0, 1}
	for at := range 6 {
		for place, id := range order {
			s, a := sequencer(t, 4, 2, 2, 2)
			for range order {
				s.Gate().Drop(s.Gate().Cells()[0])
			}
			for _, id := range order {
				s.Gate().Add(id)
			}
			claim(t, s, 4, 3)
			y := steps(t, try(t, s, 3), at)
			if at < 5 {
				store(t, a, id, 1)
			}
			if at <= place+2 {
				got(t, steps(t, y, 5-at), -1)
				continue
			}
			got(t, steps(t, y, 7-at), 6)
		}
	}
}

// P10.4: the group is as it is when what was seen last is read.
func TestTryGroup(t *testing.T) {
	s, _ := sequencer(t, 4, 3, -1)
	s.Gate().Drop(1)
	claim(t, s, 4, 3)
	y := steps(t, try(t, s, 1), 1)
	s.Gate().Add(1)
	y = steps(t, y, 1)
	s.Gate().Drop(1)
	s.Gate().Drop(0)
	y = steps(t, y, 1)
	goes(t, y)
	got(t, steps(t, y, 1), -1)

	s.Gate().Add(0)
	y = steps(t, try(t, s, 1), 2)
	s.Gate().Add(1)
	got(t, steps(t, y, 3), 4)

	s, _ = sequencer(t, 4, -1)
	claim(t, s, 4, 3)
	y = steps(t, try(t, s, 4), 1)
	s.Gate().Drop(0)
	y = steps(t, y, 1)
	s.Gate().Add(0)
	got(t, steps(t, y, 2), 7)
}

// P10.4: what was seen last is read at its own step, and what isn't above what was claimed is enough: what the cursor's cell had
// when it was read counts, not what it has now.
func TestTryAbove(t *testing.T) {
	s, a := sequencer(t, 4, -1)
	y := steps(t, try(t, s, 1), 1)
	claim(t, s, 4, 3)
	store(t, a, 0, 3)
	claim(t, s, 1, 4)
	if number(a, s.Cached()) != 3 {
		t.Fatal(numbers(a))
	}
	// It looks, stores what it had itself, -1, and swaps in vain: seven steps more it is done.
	y = steps(t, y, 3)
	if number(a, s.Cached()) != -1 {
		t.Fatal(numbers(a))
	}
	y = steps(t, y, 1)
	goes(t, y)
	got(t, steps(t, y, 5), 5)
	if number(a, s.Cached()) != 3 {
		t.Fatal(numbers(a))
	}

	s, _ = sequencer(t, 4, -1)
	x := steps(t, try(t, s, 1), 1)
	claim(t, s, 2, 1)
	x = steps(t, x, 2)
	goes(t, x)
	got(t, steps(t, x, 3), 2)
}

// P10.4: a swap in vain begins anew with reading the cursor's cell, be it full then or not.
func TestTryAnew(t *testing.T) {
	s, a := sequencer(t, 4, -1)
	x, y, z := try(t, s, 2), try(t, s, 2), try(t, s, 1)
	x, y, z = steps(t, x, 2), steps(t, y, 2), steps(t, z, 2)
	got(t, steps(t, y, 1), 1)
	was := numbers(a)
	x, z = steps(t, x, 1), steps(t, z, 1)
	if !slices.Equal(numbers(a), was) {
		t.Fatal(numbers(a), was)
	}
	z = steps(t, z, 2)
	got(t, steps(t, x, 3), 3)
	z = steps(t, z, 1)
	got(t, steps(t, z, 3), -1)
}

// P10.4: a Try is a value: a step of it leaves it as it was.
func TestTryValue(t *testing.T) {
	s, _ := sequencer(t, 2, 0, -1)
	claim(t, s, 2, 1)
	list := []multi.Try{try(t, s, 1)}
	for i := range 3 {
		list = append(list, steps(t, list[i], 1))
	}
	for range 2 {
		for i, y := range list {
			got(t, steps(t, y, 4-i), -1)
		}
	}
}

// P10.4: a zero Try is done, and claimed nothing.
func TestZeroTry(t *testing.T) {
	var y multi.Try
	for range 2 {
		if !y.Done() || y.Full() || y.Last() != -1 {
			t.Fatal(y.Done(), y.Full(), y.Last())
		}
		next, e := y.Step()
		if next != y || e != nil {
			t.Fatal(next, e)
		}
	}
}

// Errors: a cell that the arena lacks is ErrNone, only where one looks; nothing is changed or counted.
func TestNone(t *testing.T) {
	for _, l := range [][]int{{99}, {0, 7}, {7, 0}, {api.MaxCells - 1}} {
		s, a := sequencer(t, 2, 0)
		s.Gate().Drop(0)
		for _, id := range l {
			s.Gate().Add(id)
		}
		claim(t, s, 1, 0)
		claim(t, s, 1, 1)
		was := all(s, a)
		for range 2 {
			last, e := s.Claim(1)
			left, f := s.Remaining()
			if last != 0 || left != 0 || !errors.Is(e, api.ErrNone) || !errors.Is(f, api.ErrNone) || !slices.Equal(all(s, a), was) {
				t.Fatal(l, last, left, e, f, all(s, a))
			}
		}
		s.Gate().Drop(l[0])
		s.Gate().Drop(l[len(l)-1])
		claim(t, s, 1, 2)
	}
}

// Errors: a Try that comes to a cell that the arena lacks is as it was, and goes on when the cell is there.
func TestTryNone(t *testing.T) {
	s, a := sequencer(t, 2, 1)
	s.Gate().Add(a.Len())
	claim(t, s, 2, 1)
	y := steps(t, try(t, s, 1), 3)
	was := all(s, a)
	for range 3 {
		next, e := y.Step()
		if next != y || !errors.Is(e, api.ErrNone) || !slices.Equal(all(s, a), was) {
			t.Fatal(e, all(s, a))
		}
		goes(t, next)
	}
	a.Alloc(0)
	got(t, steps(t, y, 3), 2)
	if number(a, s.Cached()) != 0 {
		t.Fatal(numbers(a))
	}
}

// Errors are numbers within faults, whose place tells which claim was refused.
func TestPlace(t *testing.T) {
	s, _ := sequencer(t, 4, -1)
	claim(t, s, 4, 3)
	_, e := s.Claim(2)
	if op, seq, ok := fault.At(e); op != "claim" || seq != 5 || !ok || fault.Code(e) != api.ErrFull {
		t.Fatal(op, seq, ok)
	}
}
