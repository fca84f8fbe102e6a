package slots_test

import (
	"errors"
	"math"
	"noria/api"
	"noria/pow"
	"noria/slots"
	"slices"
	"testing"
)

const most = 1 << api.MaxShift

// none are numbers that no index is.
var none = []int64{-1, -2, math.MinInt64, api.MaxSeq + 1, math.MaxInt64}

// ring is one of so many slots.
func ring(t *testing.T, n int) *slots.Ring {
	t.Helper()
	r, e := slots.New(n)
	if r == nil || e != nil {
		t.Fatal(n, r, e)
	}
	return r
}

// event is one that differs from those of other numbers.
func event(n int64) api.Event { return api.Event{Key: n + 1, Val: -7 * n} }

// events are so many, that differ.
func events(from int64, n int) []api.Event {
	l := make([]api.Event, 0, n)
	for i := range n {
		l = append(l, event(from+int64(i)))
	}
	return l
}

// filled is a ring whose slots have the events of the numbers from 100 on.
func filled(t *testing.T, n int) *slots.Ring {
	t.Helper()
	r := ring(t, n)
	if k, e := r.Fill(0, events(100, n)...); k != int64(n) || e != nil {
		t.Fatal(n, k, e)
	}
	return r
}

// has wants a ring to have just those events, slot by slot, whichever way it is asked.
func has(t *testing.T, r *slots.Ring, l ...api.Event) {
	t.Helper()
	if r.Size().Slots() != int64(len(l)) {
		t.Fatal(r.Size().Slots(), l)
	}
	all, e := r.Span(0, int64(len(l))-1)
	if e != nil || !slices.Equal(all, l) {
		t.Fatal(all, l, e)
	}
	for i, want := range l {
		if x, e := r.Get(int64(i)); x != want || e != nil {
			t.Fatal(i, x, want, e)
		}
	}
}

// put wants Put to be done.
func put(t *testing.T, r *slots.Ring, seq int64, x api.Event) {
	t.Helper()
	if e := r.Put(seq, x); e != nil {
		t.Fatal(seq, e)
	}
}

// get wants an index's slot to have an event.
func get(t *testing.T, r *slots.Ring, seq int64, want api.Event) {
	t.Helper()
	if x, e := r.Get(seq); x != want || e != nil {
		t.Fatal(seq, x, want, e)
	}
}

// The chapter's example.
func TestExample(t *testing.T) {
	r := ring(t, 2)
	for seq := range int64(3) {
		put(t, r, seq, event(seq))
	}
	get(t, r, 0, event(2))
	get(t, r, 1, event(1))
	get(t, r, 2, event(2))
}

// P6.1: New is of any size, each slot has a zero event, and each ring is another.
func TestNew(t *testing.T) {
	for shift := range api.MaxShift + 1 {
		n := 1 << shift
		s, _ := pow.Of(n)
		r, other := ring(t, n), ring(t, n)
		if r == other || r.Size() != s {
			t.Fatal(n, r.Size())
		}
		put(t, other, 0, event(5))
		l, e := r.Span(0, int64(n)-1)
		if e != nil || len(l) != n {
			t.Fatal(n, len(l), e)
		}
		if slices.ContainsFunc(l, func(x api.Event) bool { return x != (api.Event{}) }) {
			t.Fatal(n, "not zero")
		}
	}
}

// Errors: what is no power of two up to 2^20 is no ring.
func TestNewSize(t *testing.T) {
	for _, n := range []int{0, -1, -2, -8, 3, 5, 6, 7, 9, most - 1, most + 1, 2 * most, 1 << 40, 1 << 62, math.MinInt, math.MaxInt} {
		if r, e := slots.New(n); r != nil || !errors.Is(e, api.ErrSize) {
			t.Fatal(n, r, e)
		}
	}
}

// P6.1: Put lays an event at its own slot alone, Get is what it has, for indexes of any round.
func TestPutGet(t *testing.T) {
	for _, n := range []int{1, 2, 4, 8, 64} {
		for _, base := range []int64{0, 1, 5, 100, api.MaxSeq - 200, api.MaxSeq - int64(n)} {
			for d := range int64(n) + 1 {
				r, want := filled(t, n), events(100, n)
				put(t, r, base+d, event(7))
				want[(base+d)%int64(n)] = event(7)
				has(t, r, want...)
				get(t, r, base+d, event(7))
			}
		}
	}
}

// P6.1: an event is kept as it is, the zero one too.
func TestAnyEvent(t *testing.T) {
	r := ring(t, 2)
	for _, x := range []api.Event{{Key: math.MinInt64, Val: math.MaxInt64}, {Key: math.MaxInt64, Val: math.MinInt64}, {Key: 1}, {Val: 1}, {Key: -1, Val: -1}, {}} {
		put(t, r, 4, x)
		has(t, r, x, api.Event{})
	}
}

// P6.2: what is put is got at its index, and at each other one of its slot, till one a size further on, or more, is put.
func TestStays(t *testing.T) {
	for _, n := range []int64{1, 2, 4, 8} {
		for _, rounds := range []int64{1, 2, 3, 1 << 40} {
			for seq := range 3 * n {
				r := filled(t, int(n))
				put(t, r, seq, event(1))
				for other := seq + 1; other < seq+n; other++ {
					put(t, r, other, event(2))
					get(t, r, seq, event(1))
				}
				get(t, r, seq+n, event(1))
				put(t, r, seq+rounds*n, event(3))
				get(t, r, seq, event(3))
			}
		}
	}
}

// Errors: 0 and MaxSeq are indexes, what lies below or above is none.
func TestRange(t *testing.T) {
	r, want := filled(t, 4), events(100, 4)
	for _, seq := range none {
		x, e := r.Get(seq)
		l, f := r.Span(seq, seq)
		n, g := r.Fill(seq, event(1))
		m, h := r.Fill(seq)
		for _, e := range []error{e, f, g, h, r.Put(seq, event(1))} {
			if !errors.Is(e, api.ErrRange) {
				t.Fatal(seq, e)
			}
		}
		if x != (api.Event{}) || len(l) != 0 || n != 0 || m != 0 {
			t.Fatal(seq, x, l, n, m)
		}
		has(t, r, want...)
	}
	put(t, r, 0, event(1))
	put(t, r, api.MaxSeq-1, event(2))
	get(t, r, 0, event(1))
	has(t, r, event(1), event(101), event(102), event(2))
	put(t, r, api.MaxSeq, event(3))
	get(t, r, api.MaxSeq, event(3))
	has(t, r, event(3), event(101), event(102), event(2))
}

// P6.1: Span is what the slots have, in the order of the indexes.
func TestSpan(t *testing.T) {
	for _, n := range []int64{1, 2, 4, 8} {
		r := filled(t, int(n))
		for _, base := range []int64{0, 1, 1000, api.MaxSeq - 4*n} {
			for lo := base; lo <= base+3*n; lo++ {
				var want []api.Event
				for hi := lo; hi < lo+n; hi++ {
					want = append(want, event(100+hi%n))
					if l, e := r.Span(lo, hi); e != nil || !slices.Equal(l, want) {
						t.Fatal(n, lo, hi, l, e)
					}
				}
			}
		}
	}
}

// Errors: hi is no less than lo, less than the slots above it, and MaxSeq at most.
func TestSpanArg(t *testing.T) {
	for _, n := range []int64{1, 2, 8, most} {
		r := ring(t, int(n))
		for _, c := range []struct {
			lo, hi int64
			want   error
		}{
			{0, n - 1, nil}, {0, n, api.ErrArg}, {5, n + 4, nil}, {5, n + 5, api.ErrArg}, {5, n + 6, api.ErrArg},
			{0, -1, api.ErrArg}, {5, 4, api.ErrArg}, {5, 0, api.ErrArg}, {5, -1, api.ErrArg},
			{0, math.MaxInt64, api.ErrArg}, {0, math.MinInt64, api.ErrArg}, {api.MaxSeq, math.MinInt64, api.ErrArg}, {api.MaxSeq, math.MaxInt64, api.ErrArg},
			{api.MaxSeq - n + 1, api.MaxSeq, nil}, {api.MaxSeq, api.MaxSeq, nil},
			{api.MaxSeq, api.MaxSeq + 1, api.ErrArg}, {api.MaxSeq - n/2, api.MaxSeq + 1, api.ErrArg}, {api.MaxSeq, api.MaxSeq - 1, api.ErrArg},
			// Of several errors, the first that the chapter names.
			{-1, -2, api.ErrRange}, {-1, math.MaxInt64, api.ErrRange}, {math.MinInt64, math.MaxInt64, api.ErrRange},
			{math.MaxInt64, math.MinInt64, api.ErrRange}, {api.MaxSeq + 1, api.MaxSeq, api.ErrRange}, {api.MaxSeq + 1, api.MaxSeq + 2, api.ErrRange},
		} {
			l, e := r.Span(c.lo, c.hi)
			if !errors.Is(e, c.want) || c.want != nil && len(l) != 0 || c.want == nil && int64(len(l)) != c.hi-c.lo+1 {
				t.Fatal(n, c.lo, c.hi, len(l), e)
			}
		}
	}
}

// P6.1: Fill puts one behind the other; of more events than slots the last ones stay.
func TestFill(t *testing.T) {
	for _, n := range []int{1, 2, 4, 8} {
		for _, lo := range []int64{0, 1, 3, 7, 8, 1000, api.MaxSeq - 40} {
			for many := range 3*n + 2 {
				r, want := filled(t, n), events(100, n)
				for i := range many {
					want[(lo+int64(i))%int64(n)] = event(int64(i))
				}
				if k, e := r.Fill(lo, events(0, many)...); k != int64(min(many, n)) || e != nil {
					t.Fatal(n, lo, many, k, e)
				}
				has(t, r, want...)
			}
		}
	}
}

// Errors: no more events than MaxSeq less the index.
func TestFillExhausted(t *testing.T) {
	for _, n := range []int{1, 2, 8} {
		for room := range 12 {
			lo := api.MaxSeq - int64(room)
			for many := range 15 {
				r, want := filled(t, n), events(100, n)
				k, e := r.Fill(lo, events(0, many)...)
				if many > room {
					if k != 0 || !errors.Is(e, api.ErrExhausted) {
						t.Fatal(n, room, many, k, e)
					}
					has(t, r, want...)
					continue
				}
				if k != int64(min(many, n)) || e != nil {
					t.Fatal(n, room, many, k, e)
				}
				for i := range many {
					want[(lo+int64(i))%int64(n)] = event(int64(i))
				}
				has(t, r, want...)
			}
		}
	}
}

// P6.1: a ring of the most slots is filled whole, and more than whole.
func TestFillMost(t *testing.T) {
	r := ring(t, most)
	l := events(0, most+3)
	if k, e := r.Fill(5, l...); k != most || e != nil {
		t.Fatal(k, e)
	}
	if got, e := r.Span(8, most+7); e != nil || !slices.Equal(got, l[3:]) {
		t.Fatal(len(got), e)
	}
}

// R4: nil and empty lists are one; no event changes nothing.
func TestFillNothing(t *testing.T) {
	r := filled(t, 2)
	for _, l := range [][]api.Event{nil, {}} {
		for _, lo := range []int64{0, 1, 5, api.MaxSeq} {
			if n, e := r.Fill(lo, l...); n != 0 || e != nil {
				t.Fatal(lo, n, e)
			}
			has(t, r, events(100, 2)...)
		}
	}
}

// R3: the events that are handed in stay, with those behind their end, and aren't kept.
func TestFillOwn(t *testing.T) {
	for _, many := range []int{2, 4, 6} {
		r, l := ring(t, 4), events(0, 9)
		r.Fill(0, l[:many]...)
		put(t, r, 0, event(20))
		put(t, r, 1, event(21))
		if !slices.Equal(l, events(0, 9)) {
			t.Fatal(many, l)
		}
		was, _ := r.Span(0, 3)
		for i := range l {
			l[i] = event(30)
		}
		has(t, r, was...)
	}
}

// R3: what Span answers is the asker's own.
func TestSpanOwn(t *testing.T) {
	r := filled(t, 4)
	for lo := range int64(8) {
		l, _ := r.Span(lo, lo+2)
		m, _ := r.Span(lo, lo+2)
		l[0] = event(1)
		_ = append(l[:1], event(2), event(3), event(4), event(5))
		if m[0] != event(100+lo%4) {
			t.Fatal(lo, m)
		}
		has(t, r, events(100, 4)...)
	}
	l, _ := r.Span(0, 3)
	put(t, r, 0, event(9))
	if l[0] != event(100) {
		t.Fatal(l)
	}
}

// P6.1: a clone is the same, and each of the two goes on for itself.
func TestClone(t *testing.T) {
	for _, n := range []int{1, 2, 4, 64} {
		r := filled(t, n)
		c := r.Clone()
		if c == r || c == nil {
			t.Fatal(n, c)
		}
		has(t, c, events(100, n)...)
		wantR, wantC := events(100, n), events(100, n)
		put(t, r, 0, event(1))
		c.Fill(int64(n)-1, event(2))
		wantR[0], wantC[n-1] = event(1), event(2)
		has(t, r, wantR...)
		has(t, c, wantC...)
	}
}

// Errors: nil is ErrNil, ahead of all others; else it is the zero size, nil.
func TestNil(t *testing.T) {
	var r *slots.Ring
	for _, seq := range append([]int64{0, 1, api.MaxSeq}, none...) {
		x, e := r.Get(seq)
		l, f := r.Span(seq, -5)
		n, g := r.Fill(seq, event(1), event(2))
		for _, e := range []error{e, f, g, r.Put(seq, event(1))} {
			if !errors.Is(e, api.ErrNil) {
				t.Fatal(seq, e)
			}
		}
		if x != (api.Event{}) || len(l) != 0 || n != 0 {
			t.Fatal(seq, x, l, n)
		}
	}
	if r.Size() != (pow.Size{}) || r.Clone() != nil {
		t.Fatal("nil has something")
	}
}

// R1: a ring that New didn't make panics nowhere.
func TestZero(t *testing.T) {
	r := new(slots.Ring)
	for _, seq := range append([]int64{0, 1, api.MaxSeq}, none...) {
		r.Put(seq, event(1))
		r.Get(seq)
		r.Span(seq, seq)
		r.Fill(seq, event(1), event(2))
		r.Clone().Get(seq)
		r.Size()
	}
}

// P6.1, P6.2: whatever is done behind each other, each slot has what was put last at an index of it.
func TestAll(t *testing.T) {
	const long, kinds = 5, 8
	runs := 1
	for range long {
		runs *= kinds
	}
	for _, n := range []int64{1, 2, 4} {
		for run := range runs {
			r, l := ring(t, int(n)), make([]api.Event, n)
			for i, rest := int64(0), run; i < long; i, rest = i+1, rest/kinds {
				lo := int64(rest % 4)
				many := 1
				if rest%kinds < 4 {
					put(t, r, lo, event(10*i))
				} else {
					many = 3
					if k, e := r.Fill(lo, events(10*i, many)...); k != min(3, n) || e != nil {
						t.Fatal(run, i, k, e)
					}
				}
				for j := range int64(many) {
					l[(lo+j)%n] = event(10*i + j)
				}
			}
			has(t, r, l...)
		}
	}
}
