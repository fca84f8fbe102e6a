package single_test

import (
	"errors"
	"math"
	"noria/api"
	"noria/cells"
	"noria/fault"
	"noria/single"
	"slices"
	"testing"
)

const most = 1 << api.MaxShift

// edges are numbers near the ends of their type, and near the bounds that the document names.
var edges = []int64{math.MinInt64, math.MinInt64 + 1, -api.MaxSeq, -2, -1, 0, 1, api.MaxSeq, api.MaxSeq + 1, math.MaxInt64 - 1, math.MaxInt64}

// sequencer is one of so many slots, and its arena, in which the cells ahead of its cursor's hold it back: they have some numbers.
func sequencer(t *testing.T, n int, held ...int64) (*single.Sequencer, *cells.Arena) {
	t.Helper()
	a := cells.New()
	for _, v := range held {
		a.Alloc(v)
	}
	s, e := single.New(a, n)
	if s == nil || e != nil {
		t.Fatal(n, s, e)
	}
	for id := range held {
		if e := s.Gate().Add(id); e != nil {
			t.Fatal(id, e)
		}
	}
	return s, a
}

// numbers are what an arena's cells have. It asks a clone: a load is a step.
func numbers(a *cells.Arena) []int64 {
	b := a.Clone()
	l := make([]int64, 0, b.Len())
	for id := range b.Len() {
		v, _ := b.Load(id)
		l = append(l, v)
	}
	return l
}

// all is what calls tell of a sequencer and its arena, but those that change something.
func all(s *single.Sequencer, a *cells.Arena) []int64 {
	l := []int64{int64(s.Cursor()), s.Published(), s.Claimed(), int64(s.Scans()), int64(a.Steps()), int64(s.Gate().Len())}
	for _, id := range s.Gate().Cells() {
		l = append(l, int64(id))
	}
	return append(l, numbers(a)...)
}

// claim wants a claim to come up to this index.
func claim(t *testing.T, s *single.Sequencer, n int, want int64) {
	t.Helper()
	if last, e := s.Claim(n); last != want || e != nil || s.Claimed() != want {
		t.Fatal(n, last, want, e, s.Claimed())
	}
}

// full wants a claim to be ErrFull.
func full(t *testing.T, s *single.Sequencer, n int) {
	t.Helper()
	was := s.Claimed()
	if last, e := s.Claim(n); last != 0 || !errors.Is(e, api.ErrFull) || s.Claimed() != was {
		t.Fatal(n, last, e, was, s.Claimed())
	}
}

// publish wants all up to an index to be published.
func publish(t *testing.T, s *single.Sequencer, hi int64) {
	t.Helper()
	if e := s.Publish(hi); e != nil || s.Published() != hi {
		t.Fatal(hi, e, s.Published())
	}
}

// skip wants a sequencer to begin behind an index.
func skip(t *testing.T, s *single.Sequencer, to int64) {
	t.Helper()
	if e := s.Skip(to); e != nil || s.Claimed() != to || s.Published() != to {
		t.Fatal(to, e, s.Claimed(), s.Published())
	}
}

// remain wants so many to remain.
func remain(t *testing.T, s *single.Sequencer, want int64) {
	t.Helper()
	if n, e := s.Remaining(); n != want || e != nil {
		t.Fatal(n, want, e)
	}
}

// scans wants a sequencer to have looked so often.
func scans(t *testing.T, s *single.Sequencer, want int) {
	t.Helper()
	if n := s.Scans(); n != want {
		t.Fatal(n, want)
	}
}

// try wants a Try to begin.
func try(t *testing.T, s *single.Sequencer, n int) single.Try {
	t.Helper()
	y, e := s.Try(n)
	if e != nil {
		t.Fatal(n, e)
	}
	return y
}

// step wants a Try to go on.
func step(t *testing.T, y single.Try) single.Try {
	t.Helper()
	y, e := y.Step()
	if e != nil {
		t.Fatal(e)
	}
	return y
}

// goes wants a Try not to be done.
func goes(t *testing.T, y single.Try) {
	t.Helper()
	if y.Done() || y.Full() || y.Last() != -1 {
		t.Fatal(y.Done(), y.Full(), y.Last())
	}
}

// got wants a Try to have claimed up to this index; -1: it is full.
func got(t *testing.T, y single.Try, want int64) {
	t.Helper()
	if !y.Done() || y.Full() != (want == -1) || y.Last() != want {
		t.Fatal(y.Done(), y.Full(), y.Last(), want)
	}
}

// store lets a cell of an arena have a number.
func store(t *testing.T, a *cells.Arena, id int, v int64) {
	t.Helper()
	if e := a.Store(id, v); e != nil {
		t.Fatal(id, e)
	}
}

// The chapter's examples.
func TestExamples(t *testing.T) {
	s, a := sequencer(t, 2, -1)
	claim(t, s, 2, 1)
	full(t, s, 1)
	publish(t, s, 1)
	store(t, a, 0, 0)
	claim(t, s, 1, 2)

	s, _ = sequencer(t, 2, -1)
	claim(t, s, 2, 1)
	publish(t, s, 1)
	got(t, step(t, step(t, try(t, s, 1))), -1)
}

// P9.1: New lays one cell, -1, behind those that are there; nothing is claimed, and nobody holds it back.
func TestNew(t *testing.T) {
	for shift := range api.MaxShift + 1 {
		a := cells.New()
		a.Alloc(77)
		a.Alloc(78)
		s, e := single.New(a, 1<<shift)
		if s == nil || e != nil || !slices.Equal(all(s, a), []int64{2, -1, -1, 0, 0, 0, 77, 78, -1}) {
			t.Fatal(shift, e)
		}
		remain(t, s, 1<<shift)
		if _, e := s.Claim(1<<shift + 1); !errors.Is(e, api.ErrArg) {
			t.Fatal(shift, e)
		}
		claim(t, s, 1<<shift, 1<<shift-1)
		full(t, s, 1)
	}
}

// P9.1: sequencers of one arena have cells, groups and numbers of their own.
func TestTwo(t *testing.T) {
	a := cells.New()
	s, _ := single.New(a, 2)
	r, _ := single.New(a, 4)
	if s == r || s.Cursor() != 0 || r.Cursor() != 1 || a.Len() != 2 {
		t.Fatal(s.Cursor(), r.Cursor(), a.Len())
	}
	claim(t, r, 3, 2)
	publish(t, r, 1)
	s.Gate().Add(1)
	r.Remaining()
	if s.Claimed() != -1 || s.Published() != -1 || s.Scans() != 0 || r.Gate().Len() != 0 || !slices.Equal(numbers(a), []int64{-1, 1}) {
		t.Fatal(s.Claimed(), s.Published(), s.Scans(), r.Gate().Cells(), numbers(a))
	}
}

// Errors: New's, the first that the chapter names; nothing is laid.
func TestNewRefused(t *testing.T) {
	for _, n := range []int{0, -1, 3, 6, most + 1, most - 1, 2 * most, math.MinInt, math.MaxInt} {
		a := cells.New()
		if s, e := single.New(a, n); s != nil || !errors.Is(e, api.ErrSize) || a.Len() != 0 {
			t.Fatal(n, s, e, a.Len())
		}
		if s, e := single.New(nil, n); s != nil || !errors.Is(e, api.ErrNil) {
			t.Fatal(n, s, e)
		}
	}
	if s, e := single.New(nil, 4); s != nil || !errors.Is(e, api.ErrNil) {
		t.Fatal(s, e)
	}
	a := cells.New()
	for range api.MaxCells - 1 {
		a.Alloc(0)
	}
	if s, e := single.New(a, 2); e != nil || s.Cursor() != api.MaxCells-1 {
		t.Fatal(e)
	}
	if s, e := single.New(a, 2); s != nil || !errors.Is(e, api.ErrMany) {
		t.Fatal(s, e)
	}
	if s, e := single.New(a, 3); s != nil || !errors.Is(e, api.ErrSize) {
		t.Fatal(s, e)
	}
}

// Errors: nil is ErrNil, ahead of all others; else -1, 0 and nil.
func TestNil(t *testing.T) {
	var s *single.Sequencer
	if s.Cursor() != -1 || s.Gate() != nil || s.Published() != -1 || s.Claimed() != -1 || s.Scans() != 0 {
		t.Fatal(s.Cursor(), s.Gate(), s.Published(), s.Claimed(), s.Scans())
	}
	for _, n := range []int{0, 1, -1, math.MinInt, math.MaxInt} {
		last, e := s.Claim(n)
		y, f := s.Try(n)
		left, g := s.Remaining()
		for _, e := range []error{e, f, g, s.Publish(int64(n)), s.Skip(int64(n))} {
			if !errors.Is(e, api.ErrNil) {
				t.Fatal(n, e)
			}
		}
		if last != 0 || y != (single.Try{}) || left != 0 {
			t.Fatal(n, last, y, left)
		}
	}
}

// R1: a zero sequencer doesn't panic, nor does a Try of it.
func TestZeroSequencer(t *testing.T) {
	var s single.Sequencer
	for range 3 {
		s.Cursor()
		s.Gate().Add(1)
		s.Claim(1)
		y, _ := s.Try(1)
		y.Step()
		s.Publish(1)
		s.Published()
		s.Claimed()
		s.Remaining()
		s.Skip(5)
		s.Scans()
	}
}

// P9.1: Gate is the sequencer's own group: who is put in holds it back, who is taken out doesn't any more.
func TestGate(t *testing.T) {
	s, a := sequencer(t, 2)
	id, _ := a.Alloc(-1)
	g := s.Gate()
	if g != s.Gate() || g.Len() != 0 {
		t.Fatal(g.Cells())
	}
	g.Add(id)
	claim(t, s, 2, 1)
	publish(t, s, 1)
	full(t, s, 1)
	g.Drop(id)
	claim(t, s, 2, 3)
}

// P9.1: indexes are claimed from 0 on, in order, each once.
func TestClaimOrder(t *testing.T) {
	s, _ := sequencer(t, 8)
	want := int64(-1)
	for round := range 50 {
		n := round*5%8 + 1
		want += int64(n)
		claim(t, s, n, want)
		publish(t, s, want)
	}
}

// P9.1: Publish publishes all up to an index, none or more of them ahead of it; the cell has it.
func TestPublish(t *testing.T) {
	s, a := sequencer(t, 8, -1)
	claim(t, s, 8, 7)
	for i, hi := range []int64{0, 1, 4, 7} {
		publish(t, s, hi)
		if !slices.Equal(numbers(a), []int64{-1, hi}) || a.Steps() != i+1 {
			t.Fatal(hi, numbers(a), a.Steps())
		}
	}
}

// Errors: Publish refuses what is published already, and what isn't claimed; nothing is changed.
func TestPublishRefused(t *testing.T) {
	for _, c := range []struct {
		claimed   int
		published int64
		bad       []int64
	}{
		{0, -1, []int64{0, 1, 7}}, {1, -1, []int64{1, 2}}, {1, 0, []int64{0, 1}}, {5, -1, []int64{5, 6}}, {5, 2, []int64{0, 1, 2, 5, 8}}, {8, 7, []int64{0, 6, 7, 8, 9}},
	} {
		s, a := sequencer(t, 8)
		if c.claimed > 0 {
			claim(t, s, c.claimed, int64(c.claimed-1))
		}
		if c.published >= 0 {
			publish(t, s, c.published)
		}
		was := all(s, a)
		for _, hi := range append(c.bad, -1, -2, math.MinInt64, api.MaxSeq, api.MaxSeq+1, math.MaxInt64) {
			if e := s.Publish(hi); !errors.Is(e, api.ErrArg) || !slices.Equal(all(s, a), was) {
				t.Fatal(c.claimed, c.published, hi, e)
			}
		}
		remain(t, s, 8-int64(c.claimed)+c.published+1)
	}
}

// Errors: Claim and Try refuse numbers of indexes that there can't be, when it is full too; nothing is changed.
func TestClaimRefused(t *testing.T) {
	for _, n := range []int{1, 2, 8, most} {
		s, a := sequencer(t, n, -1)
		for isFull := range 2 {
			was := all(s, a)
			for _, bad := range []int{0, -1, n + 1, 2*n + 1, most + 1, 1 << 32, math.MinInt, math.MaxInt} {
				last, e := s.Claim(bad)
				y, f := s.Try(bad)
				if last != 0 || y != (single.Try{}) || !errors.Is(e, api.ErrArg) || !errors.Is(f, api.ErrArg) || !slices.Equal(all(s, a), was) {
					t.Fatal(n, bad, last, y, e, f)
				}
			}
			if isFull == 0 {
				claim(t, s, n, int64(n-1))
			}
		}
	}
}

// P9.1: a slot is free only when its last index is published.
func TestUnpublished(t *testing.T) {
	s, _ := sequencer(t, 4)
	claim(t, s, 4, 3)
	full(t, s, 1)
	for i := range int64(20) {
		publish(t, s, i)
		full(t, s, 2)
		claim(t, s, 1, i+4)
		full(t, s, 1)
	}
}

// P9.1: a slot is free only when all who hold back are done with it.
func TestHeldBack(t *testing.T) {
	s, a := sequencer(t, 4, -1, -1, -1)
	claim(t, s, 4, 3)
	publish(t, s, 3)
	for i := range int64(20) {
		full(t, s, 1)
		store(t, a, 1, i)
		full(t, s, 1)
		store(t, a, 0, i)
		full(t, s, 1)
		store(t, a, 2, i)
		full(t, s, 2)
		claim(t, s, 1, i+4)
		publish(t, s, i+4)
	}
}

// P9.1: a ring of one slot has one index at a time.
func TestOneSlot(t *testing.T) {
	s, a := sequencer(t, 1, -1)
	for i := range int64(9) {
		claim(t, s, 1, i)
		full(t, s, 1)
		publish(t, s, i)
		full(t, s, 1)
		store(t, a, 0, i)
	}
}

// P9.1: Skip is as if all up to an index were claimed and published.
func TestSkip(t *testing.T) {
	for _, to := range []int64{0, 1, 3, 4, 1000, api.MaxSeq - 4} {
		s, a := sequencer(t, 4)
		skip(t, s, to)
		if !slices.Equal(numbers(a), []int64{to}) || s.Scans() != 0 {
			t.Fatal(to, numbers(a), s.Scans())
		}
		if e := s.Publish(to); !errors.Is(e, api.ErrArg) {
			t.Fatal(to, e)
		}
		remain(t, s, 4)
		claim(t, s, 4, to+4)
		if to < api.MaxSeq-4 {
			full(t, s, 1)
		}
		publish(t, s, to+4)
	}
}

// Errors: Skip is for one of whom nothing is claimed or skipped, and whom nobody holds back; ErrBusy is ahead of ErrRange.
func TestSkipRefused(t *testing.T) {
	tests := []struct {
		name string
		act  func(s *single.Sequencer)
		want error
	}{
		{"new", func(s *single.Sequencer) {}, api.ErrRange},
		{"looked", func(s *single.Sequencer) { s.Remaining() }, api.ErrRange},
		{"claimed", func(s *single.Sequencer) { s.Claim(1) }, api.ErrBusy},
		{"tried", func(s *single.Sequencer) { s.Try(2) }, api.ErrBusy},
		{"published", func(s *single.Sequencer) { s.Claim(1); s.Publish(0) }, api.ErrBusy},
		{"skipped", func(s *single.Sequencer) { s.Skip(0) }, api.ErrBusy},
		{"held back", func(s *single.Sequencer) { s.Gate().Add(0) }, api.ErrBusy},
		{"held back by what is none", func(s *single.Sequencer) { s.Gate().Add(99) }, api.ErrBusy},
		{"let go", func(s *single.Sequencer) { s.Gate().Add(0); s.Gate().Drop(0) }, api.ErrRange},
	}
	for _, c := range tests {
		for _, to := range edges {
			s, a := sequencer(t, 4)
			c.act(s)
			was := all(s, a)
			good := to >= 0 && to <= api.MaxSeq
			e := s.Skip(to)
			if good && c.want == error(api.ErrRange) {
				if e != nil || s.Claimed() != to || s.Published() != to {
					t.Fatal(c.name, to, e)
				}
			} else if !errors.Is(e, c.want) || !slices.Equal(all(s, a), was) {
				t.Fatal(c.name, to, e)
			}
		}
	}
}

// Errors: MaxSeq is the last index; beyond it a claim is ErrExhausted, ahead of ErrFull, and behind ErrArg.
func TestExhausted(t *testing.T) {
	for left := range int64(4) {
		s, a := sequencer(t, 4)
		skip(t, s, api.MaxSeq-left)
		id, _ := a.Alloc(-1)
		s.Gate().Add(id)
		was := all(s, a)
		for n := 1; n <= 4; n++ {
			want := error(api.ErrExhausted)
			if int64(n) <= left {
				want = api.ErrFull
			}
			if last, e := s.Claim(n); last != 0 || !errors.Is(e, want) || s.Claimed() != api.MaxSeq-left {
				t.Fatal(left, n, last, e)
			}
			if int64(n) <= left {
				was = all(s, a)
				continue
			}
			if y, e := s.Try(n); y != (single.Try{}) || !errors.Is(e, api.ErrExhausted) || !slices.Equal(all(s, a), was) {
				t.Fatal(left, n, y, e)
			}
		}
		if _, e := s.Claim(5); !errors.Is(e, api.ErrArg) {
			t.Fatal(e)
		}
		s.Gate().Drop(id)
		if left > 0 {
			claim(t, s, int(left), api.MaxSeq)
			publish(t, s, api.MaxSeq)
		}
	}
}

// P9.2: Remaining tells of the least as it is now, whatever was seen last.
func TestRemaining(t *testing.T) {
	s, a := sequencer(t, 8, -1, -1)
	remain(t, s, 8)
	claim(t, s, 3, 2)
	remain(t, s, 5)
	publish(t, s, 2)
	remain(t, s, 5)
	store(t, a, 0, 2)
	remain(t, s, 5)
	store(t, a, 1, 1)
	remain(t, s, 7)
	claim(t, s, 7, 9)
	remain(t, s, 0)
	store(t, a, 1, 2)
	remain(t, s, 1)
	s.Gate().Drop(0)
	s.Gate().Drop(1)
	remain(t, s, 1)
	publish(t, s, 8)
	remain(t, s, 7)
	publish(t, s, 9)
	remain(t, s, 8)
}

// P9.2, R6: cells may have any number; what remains is from 0 to all slots, and nothing is reckoned beyond the ends of its type.
func TestRemainingEdges(t *testing.T) {
	for _, n := range []int64{1, 2, 8, most} {
		for _, to := range []int64{-1, 0, 5, most, api.MaxSeq - 1, api.MaxSeq} {
			for _, v := range edges {
				s, a := sequencer(t, int(n))
				if to >= 0 {
					skip(t, s, to)
				}
				id, _ := a.Alloc(v)
				s.Gate().Add(id)
				want := n
				if v < to {
					want = max(0, n-(to-max(v, -most-1)))
				}
				remain(t, s, want)
			}
		}
	}
}

// P9.2: Remaining reads each cell once, and writes none.
func TestRemainingReads(t *testing.T) {
	for g := range api.MaxGroup + 1 {
		l := make([]int64, g)
		s, a := sequencer(t, 4, l...)
		was := numbers(a)
		for i := range 3 {
			remain(t, s, 4)
			scans(t, s, i+1)
			if a.Steps() != (i+1)*(g+1) || !slices.Equal(numbers(a), was) {
				t.Fatal(g, a.Steps(), numbers(a))
			}
		}
	}
}

// P9.2: Claim looks only when what was seen last isn't enough, and remembers what it saw, though it is full.
func TestScans(t *testing.T) {
	s, a := sequencer(t, 4, -1)
	claim(t, s, 3, 2)
	claim(t, s, 1, 3)
	scans(t, s, 0)
	if a.Steps() != 0 {
		t.Fatal(a.Steps())
	}
	publish(t, s, 3)
	store(t, a, 0, 3)
	claim(t, s, 1, 4)
	scans(t, s, 1)
	claim(t, s, 3, 7)
	scans(t, s, 1)
	full(t, s, 1)
	full(t, s, 1)
	scans(t, s, 3)
	publish(t, s, 7)
	store(t, a, 0, 5)
	full(t, s, 3)
	scans(t, s, 4)
	store(t, a, 0, 3)
	claim(t, s, 2, 9)
	scans(t, s, 4)
	full(t, s, 1)
	scans(t, s, 5)
}

// P9.2: what Remaining saw is what was seen last.
func TestScansRemaining(t *testing.T) {
	s, _ := sequencer(t, 4)
	claim(t, s, 4, 3)
	publish(t, s, 3)
	remain(t, s, 4)
	scans(t, s, 1)
	claim(t, s, 4, 7)
	scans(t, s, 1)
	full(t, s, 1)
	scans(t, s, 2)
}

// P9.2: what was seen last is -1 first, behind a Skip too.
func TestScansSkip(t *testing.T) {
	s, _ := sequencer(t, 4)
	skip(t, s, 2)
	claim(t, s, 1, 3)
	scans(t, s, 0)
	claim(t, s, 1, 4)
	scans(t, s, 1)
	claim(t, s, 2, 6)
	scans(t, s, 1)
}

// P9.4: what was seen last is enough: it is claimed at once, without a step.
func TestTryAtOnce(t *testing.T) {
	s, a := sequencer(t, 4, -1)
	for i := range int64(4) {
		got(t, try(t, s, 1), i)
		if s.Claimed() != i {
			t.Fatal(s.Claimed())
		}
	}
	scans(t, s, 0)
	if a.Steps() != 0 {
		t.Fatal(a.Steps())
	}
}

// P9.4: else the cursor's cell is read, and then those of the group, in order, one at each step; only behind the last one it is claimed.
func TestTrySteps(t *testing.T) {
	for g := range api.MaxGroup + 1 {
		l := make([]int64, g)
		for i := range l {
			l[i] = 3
		}
		s, a := sequencer(t, 4, l...)
		claim(t, s, 4, 3)
		publish(t, s, 3)
		was, begun := numbers(a), a.Steps()
		y := try(t, s, 2)
		for i := range g + 1 {
			goes(t, y)
			if a.Steps() != begun+i || s.Claimed() != 3 {
				t.Fatal(g, i, a.Steps(), s.Claimed())
			}
			y = step(t, y)
		}
		for range 3 {
			got(t, y, 5)
			if a.Steps() != begun+g+1 || s.Claimed() != 5 || s.Scans() != 1 || !slices.Equal(numbers(a), was) {
				t.Fatal(g, a.Steps(), s.Claimed(), s.Scans(), numbers(a))
			}
			y = step(t, y)
		}
		claim(t, s, 2, 7)
		scans(t, s, 1)
	}
}

// P9.4: each cell is read at its own step: what is written behind that isn't seen, what is written ahead of it is.
func TestTryReads(t *testing.T) {
	// The group's order is not that of the cells' numbers.
	order := []int{2, 0, 1}
	for at := range 5 {
		for cell := range order {
			s, a := sequencer(t, 4)
			for range order {
				a.Alloc(2)
			}
			for _, i := range order {
				s.Gate().Add(1 + i)
			}
			claim(t, s, 4, 3)
			publish(t, s, 3)
			y := try(t, s, 3)
			for i := range 4 {
				if i == at {
					store(t, a, 1+order[cell], -1)
				}
				y = step(t, y)
			}
			want := int64(6)
			if at <= cell+1 {
				want = -1
			}
			got(t, y, want)
		}
	}
}

// P9.4: the group is as it is when the cursor's cell is read.
func TestTryGroup(t *testing.T) {
	s, a := sequencer(t, 4, 3, -1)
	s.Gate().Drop(1)
	claim(t, s, 4, 3)
	publish(t, s, 3)
	y := try(t, s, 1)
	s.Gate().Add(1)
	y = step(t, y)
	s.Gate().Drop(1)
	s.Gate().Drop(0)
	y = step(t, y)
	goes(t, y)
	got(t, step(t, y), -1)

	s.Gate().Add(0)
	y = step(t, try(t, s, 1))
	s.Gate().Add(1)
	got(t, step(t, y), 4)

	publish(t, s, 4)
	s.Gate().Drop(0)
	y = try(t, s, 1)
	s.Gate().Drop(1)
	store(t, a, 0, 0)
	got(t, step(t, y), 5)
}

// P9.4: what a Try read is what was seen last, be it full or not.
func TestTrySeen(t *testing.T) {
	s, a := sequencer(t, 4, -1)
	claim(t, s, 4, 3)
	publish(t, s, 3)
	store(t, a, 0, 1)
	got(t, step(t, step(t, try(t, s, 3))), -1)
	scans(t, s, 1)
	got(t, try(t, s, 1), 4)
	claim(t, s, 1, 5)
	scans(t, s, 1)
	got(t, step(t, step(t, try(t, s, 1))), -1)
	scans(t, s, 2)
}

// P9.4: a Try is a value: a step of it leaves it as it was.
func TestTryValue(t *testing.T) {
	s, _ := sequencer(t, 2, -1, -1)
	claim(t, s, 2, 1)
	publish(t, s, 1)
	first := try(t, s, 1)
	second := step(t, first)
	third := step(t, second)
	goes(t, first)
	goes(t, second)
	goes(t, third)
	got(t, step(t, third), -1)
	goes(t, third)
	got(t, step(t, step(t, step(t, first))), -1)
}

// P9.4: a zero Try is done, and claimed nothing.
func TestZeroTry(t *testing.T) {
	var y single.Try
	for range 2 {
		if !y.Done() || y.Full() || y.Last() != -1 {
			t.Fatal(y.Done(), y.Full(), y.Last())
		}
		y = step(t, y)
	}
	if y != (single.Try{}) {
		t.Fatal(y)
	}
}

// Errors: a cell that the arena lacks is ErrNone, only where one looks; nothing is changed or counted.
func TestNone(t *testing.T) {
	for _, l := range [][]int{{1}, {0, 7}, {7, 0}, {api.MaxCells - 1}} {
		s, a := sequencer(t, 2)
		for _, id := range l {
			s.Gate().Add(id)
		}
		claim(t, s, 2, 1)
		publish(t, s, 1)
		was := all(s, a)
		for range 2 {
			last, e := s.Claim(1)
			left, f := s.Remaining()
			if last != 0 || left != 0 || !errors.Is(e, api.ErrNone) || !errors.Is(f, api.ErrNone) || !slices.Equal(all(s, a), was) {
				t.Fatal(l, last, left, e, f, all(s, a))
			}
		}
		s.Gate().Drop(l[0])
		s.Gate().Drop(l[len(l)-1])
		claim(t, s, 1, 2)
	}
}

// Errors: a Try that comes to a cell that the arena lacks is as it was, and goes on when the cell is there.
func TestTryNone(t *testing.T) {
	s, a := sequencer(t, 2, 1)
	s.Gate().Add(2)
	claim(t, s, 2, 1)
	publish(t, s, 1)
	y := step(t, step(t, try(t, s, 1)))
	was := all(s, a)
	for range 3 {
		x, e := y.Step()
		if x != y || !errors.Is(e, api.ErrNone) || !slices.Equal(all(s, a), was) {
			t.Fatal(e, all(s, a))
		}
		goes(t, x)
	}
	a.Alloc(0)
	got(t, step(t, y), 2)
	scans(t, s, 1)
}

// R1: of a Try between whose steps something else is claimed, no call panics, and no index is claimed twice.
func TestTryOld(t *testing.T) {
	for _, other := range []func(s *single.Sequencer){
		func(s *single.Sequencer) { s.Claim(1) },
		func(s *single.Sequencer) { s.Claim(2); s.Publish(3); s.Claim(2) },
		func(s *single.Sequencer) { y, _ := s.Try(1); y, _ = y.Step() },
	} {
		s, _ := sequencer(t, 2)
		claim(t, s, 2, 1)
		publish(t, s, 1)
		y := try(t, s, 1)
		other(s)
		was := s.Claimed()
		y = step(t, y)
		if y.Last() != -1 || s.Claimed() != was {
			t.Fatal(y.Last(), s.Claimed(), was)
		}
	}
}

// Errors are numbers within faults, whose place tells which claim was refused.
func TestPlace(t *testing.T) {
	s, _ := sequencer(t, 4)
	claim(t, s, 4, 3)
	_, e := s.Claim(2)
	if op, seq, ok := fault.At(e); op != "claim" || seq != 5 || !ok || fault.Code(e) != api.ErrFull {
		t.Fatal(op, seq, ok)
	}
}

// plain is what a sequencer of four slots is by the chapter's words, with two who may hold it back.
type plain struct {
	claimed, published int64
	held               [2]int64
	in                 []int
	seen               int64
	scans              int
}

// least is that of what those who hold back have, and of what is published.
func (p *plain) least() int64 {
	v := p.published
	for _, i := range p.in {
		v = min(v, p.held[i])
	}
	return v
}

// remaining is how many may be claimed yet.
func (p *plain) remaining() int64 { return max(0, 4-(p.claimed-p.least())) }

// look sees the least.
func (p *plain) look() {
	p.scans++
	p.seen = p.least()
}

// claim claims so many, if they remain, whatever was seen: the last one, and whether they did.
func (p *plain) claim(n int64) (int64, bool) {
	if p.seen < p.claimed+n-4 {
		p.look()
	}
	if p.remaining() < n {
		return 0, false
	}
	p.claimed += n
	return p.claimed, true
}

// turn lets somebody begin to hold back with what is published then, or leave.
func (p *plain) turn(i int) (begins bool) {
	if at := slices.Index(p.in, i); at >= 0 {
		p.in = slices.Delete(p.in, at, at+1)
		return false
	}
	p.in = append(p.in, i)
	p.held[i] = p.published
	return true
}

// turn lets somebody begin to hold back, or leave.
func turn(s *single.Sequencer, a *cells.Arena, p *plain, i int) bool {
	if !p.turn(i) {
		return s.Gate().Drop(i) == nil
	}
	return s.Gate().Add(i) == nil && a.Store(i, p.held[i]) == nil
}

// more lets somebody be done with one more, if there is one.
func more(a *cells.Arena, p *plain, i int) bool {
	p.held[i] = min(p.held[i]+1, p.published)
	return a.Store(i, p.held[i]) == nil
}

// bySteps is a claim by a Try that is gone on with till it is done.
func bySteps(s *single.Sequencer, n int) (int64, error) {
	y, e := s.Try(n)
	for e == nil && !y.Done() {
		y, e = y.Step()
	}
	if e == nil && y.Full() {
		return 0, api.ErrFull
	}
	return y.Last(), e
}

// act does one of eight things to a sequencer and to a plain one, and says whether both answered the same.
func act(s *single.Sequencer, a *cells.Arena, p *plain, claim func(int) (int64, error), what int) bool {
	switch what {
	case 0, 1:
		last, e := claim(1 + what)
		want, ok := p.claim(int64(1 + what))
		return last == want && (e == nil) == ok && (ok || errors.Is(e, api.ErrFull))
	case 2:
		e := s.Publish(p.published + 1)
		if p.published == p.claimed {
			return errors.Is(e, api.ErrArg)
		}
		p.published++
		return e == nil
	case 3, 4:
		return turn(s, a, p, what-3)
	case 5, 6:
		return more(a, p, what-5)
	default:
		n, e := s.Remaining()
		p.look()
		return n == p.remaining() && e == nil
	}
}

// P9.1, P9.2, P9.3, P9.4: whatever is done behind each other, a sequencer answers as a plain one, and is ErrFull just if fewer
// remain; one that claims by steps tells of itself and its cells what one that claims at once does.
func TestAll(t *testing.T) {
	const long = 6
	for run := range 1 << (3 * long) {
		s, p := halfway(t)
		a := s.arena
		r, q := halfway(t)
		for i := range long {
			what := run >> (3 * i) & 7
			ok := act(s.Sequencer, a, p, s.Claim, what)
			ok = act(r.Sequencer, r.arena, q, func(n int) (int64, error) { return bySteps(r.Sequencer, n) }, what) && ok
			if !ok || s.Claimed() != p.claimed || s.Published() != p.published || s.Scans() != p.scans {
				t.Fatalf("%o at %d: %v %v %v, not %v", run, i, s.Claimed(), s.Published(), s.Scans(), *p)
			}
		}
		if !slices.Equal(all(s.Sequencer, a), all(r.Sequencer, r.arena)) {
			t.Fatalf("%o: %v %v", run, all(s.Sequencer, a), all(r.Sequencer, r.arena))
		}
	}
}

// both are a sequencer and its arena.
type both struct {
	*single.Sequencer
	arena *cells.Arena
}

// halfway is a sequencer of four slots, of which two are published, two claimed besides, and held back by one of two.
func halfway(t *testing.T) (both, *plain) {
	s, a := sequencer(t, 4, -1, -1)
	claim(t, s, 4, 3)
	publish(t, s, 1)
	if e := s.Gate().Drop(1); e != nil {
		t.Fatal(e)
	}
	return both{s, a}, &plain{claimed: 3, published: 1, held: [2]int64{-1, -1}, in: []int{0}, seen: -1}
}

// P9.4, P9.5: whatever those who hold back do between a Try's steps: it is full just if the least of what it read isn't enough,
// and only if at one of its steps fewer remained; what it claims is free.
func TestTryAll(t *testing.T) {
	const long, acts = 4, 5
	runs := 1
	for range long {
		runs *= acts
	}
	for begin := range 5 * 5 * 4 * 4 {
		for run := range runs {
			s, a := sequencer(t, 4, int64(begin%5-1), int64(begin/5%5-1))
			p := &plain{claimed: 3, published: 3, held: [2]int64{int64(begin%5 - 1), int64(begin/5%5 - 1)}, in: []int{0, 1}, seen: -1}
			claim(t, s, 4, 3)
			publish(t, s, 3)
			for i := range 2 {
				if begin/25>>i&1 == 1 {
					turn(s, a, p, i)
				}
			}
			n := begin/100 + 1
			if why := between(s, a, p, n, run, acts); why != "" {
				t.Fatal(begin, run, why)
			}
		}
	}
}

// between goes on with a Try of so many, and does some of the acts ahead of each step; it says what was wrong.
func between(s *single.Sequencer, a *cells.Arena, p *plain, n, run, acts int) string {
	y, e := s.Try(n)
	if e != nil {
		return "an error"
	}
	var in []int
	fewer, least := false, p.published
	for i := 0; !y.Done(); i++ {
		ok := true
		switch what := run % acts; what {
		case 1, 2:
			ok = more(a, p, what-1)
		case 3, 4:
			ok = turn(s, a, p, what-3)
		}
		run /= acts
		if i == 0 {
			in = slices.Clone(p.in)
		} else {
			least = min(least, p.held[in[i-1]])
		}
		fewer = fewer || p.remaining() < int64(n)
		if y, e = y.Step(); !ok || e != nil || y.Done() != (i == len(in)) {
			return "a step"
		}
	}
	switch full := least < int64(n)-1; {
	case y.Full() != full:
		return "full"
	case full && !fewer:
		return "full, though enough remained at each step"
	case full && (y.Last() != -1 || s.Claimed() != 3):
		return "full, and claimed"
	case !full && (y.Last() != int64(3+n) || s.Claimed() != int64(3+n) || p.remaining() < int64(n)):
		return "claimed"
	}
	return ""
}
