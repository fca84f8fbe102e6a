package pow_test

import (
	"errors"
	"math"
	"noria/api"
	"noria/pow"
	"testing"
)

const most = 1 << api.MaxShift

// edges are indexes near the bounds that the document names, and near those of their type.
var edges = []int64{
	math.MinInt64, math.MinInt64 + 1, -api.MaxSeq - 1, -api.MaxSeq, -most - 1, -most, -9, -8, -7, -2, -1,
	0, 1, 2, 7, 8, 9, 21, most - 1, most, most + 1,
	api.MaxSeq - most - 1, api.MaxSeq - most, api.MaxSeq - most + 1, api.MaxSeq - 1, api.MaxSeq, api.MaxSeq + 1,
	math.MaxInt64 - 1, math.MaxInt64,
}

// sizes are all sizes, by their powers.
func sizes(t *testing.T) []pow.Size {
	var l []pow.Size
	for shift := range api.MaxShift + 1 {
		s, e := pow.Of(1 << shift)
		if e != nil {
			t.Fatal(shift, e)
		}
		l = append(l, s)
	}
	return l
}

// P2.1: Of, and what a size tells of itself.
func TestOf(t *testing.T) {
	for shift, s := range sizes(t) {
		n := int64(1) << shift
		if s.Slots() != n || s.Shift() != shift || s.Mask() != n-1 {
			t.Fatal(shift, s.Slots(), s.Shift(), s.Mask())
		}
	}
	for n := -70; n <= 2*most+2; n++ {
		_, e := pow.Of(n)
		if power := n > 0 && n <= most && n&(n-1) == 0; power != (e == nil) {
			t.Fatal(n, e)
		}
	}
	for _, n := range []int{math.MinInt, math.MinInt + 1, 0, -1, 3, 6, most - 1, most + 1, 2 * most, 1 << 40, 1 << 62, math.MaxInt} {
		if s, e := pow.Of(n); !errors.Is(e, api.ErrSize) || s != (pow.Size{}) {
			t.Fatal(n, s, e)
		}
	}
}

// The zero size has one slot.
func TestZero(t *testing.T) {
	var s pow.Size
	one, _ := pow.Of(1)
	if s != one || s.Slots() != 1 || s.Shift() != 0 || s.Mask() != 0 || s.Index(5) != 0 || s.Round(5) != 5 || s.Room(4, 4) != 1 {
		t.Fatal(s)
	}
	if w, e := s.Wrap(0); w != -1 || e != nil {
		t.Fatal(w, e)
	}
}

// P2.1: Up is the least size that has so many slots.
func TestUp(t *testing.T) {
	want := int64(1)
	for n := range most + 1 {
		if int64(n) > want {
			want *= 2
		}
		if s, e := pow.Up(n); e != nil || s.Slots() != want {
			t.Fatal(n, s.Slots(), e)
		}
	}
	for _, n := range []int{math.MinInt, math.MinInt + 1, -most, -2, -1, 0, 1} {
		if s, e := pow.Up(n); e != nil || s.Slots() != 1 {
			t.Fatal(n, s.Slots(), e)
		}
	}
	for _, n := range []int{most + 1, 2 * most, 1 << 40, math.MaxInt} {
		if s, e := pow.Up(n); !errors.Is(e, api.ErrSize) || s != (pow.Size{}) {
			t.Fatal(n, s, e)
		}
	}
}

// P2.2: slot and round tell the number again.
func TestIndexRound(t *testing.T) {
	eight, _ := pow.Of(8)
	for _, c := range []struct {
		seq   int64
		index int
		round int64
	}{{21, 5, 2}, {0, 0, 0}, {7, 7, 0}, {8, 0, 1}, {-1, 7, -1}, {-8, 0, -1}, {-9, 7, -2}, {api.MaxSeq, 0, api.MaxSeq / 8}} {
		if i, r := eight.Index(c.seq), eight.Round(c.seq); i != c.index || r != c.round {
			t.Error(c.seq, i, r)
		}
	}
	for _, s := range sizes(t) {
		for _, seq := range edges {
			i, r := s.Index(seq), s.Round(seq)
			if r*s.Slots()+int64(i) != seq || i < 0 || int64(i) > s.Mask() {
				t.Fatal(s.Slots(), seq, i, r)
			}
		}
	}
}

// P2.2: Wrap is the index less the size.
func TestWrap(t *testing.T) {
	for _, s := range sizes(t) {
		for _, seq := range edges {
			w, e := s.Wrap(seq)
			if seq < -1 || seq > api.MaxSeq {
				if w != 0 || !errors.Is(e, api.ErrRange) {
					t.Fatal(s.Slots(), seq, w, e)
				}
			} else if w != seq-s.Slots() || e != nil {
				t.Fatal(s.Slots(), seq, w, e)
			}
		}
	}
}

// P2.2: Next is the index and n.
func TestNext(t *testing.T) {
	for _, c := range []struct {
		seq  int64
		n    int
		want int64
	}{{-1, 1, 0}, {-1, most, most - 1}, {0, 1, 1}, {5, 3, 8}, {api.MaxSeq - 1, 1, api.MaxSeq}, {api.MaxSeq - most, most, api.MaxSeq}} {
		if got, e := pow.Next(c.seq, c.n); got != c.want || e != nil {
			t.Error(c.seq, c.n, got, e)
		}
	}
	for _, c := range []struct {
		seq  int64
		n    int
		want api.Errno
	}{
		{0, 0, api.ErrArg}, {0, -1, api.ErrArg}, {0, most + 1, api.ErrArg}, {0, math.MinInt, api.ErrArg}, {0, math.MaxInt, api.ErrArg},
		{-2, 1, api.ErrRange}, {-2, most, api.ErrRange}, {math.MinInt64, 1, api.ErrRange}, {math.MinInt64, most, api.ErrRange},
		{api.MaxSeq, 1, api.ErrExhausted}, {api.MaxSeq - most + 1, most, api.ErrExhausted}, {api.MaxSeq + 1, 1, api.ErrExhausted},
		{math.MaxInt64, 1, api.ErrExhausted}, {math.MaxInt64, most, api.ErrExhausted},
		// Of several errors, the first that the chapter names.
		{-2, 0, api.ErrArg}, {math.MaxInt64, 0, api.ErrArg}, {math.MinInt64, most + 1, api.ErrArg},
	} {
		if got, e := pow.Next(c.seq, c.n); got != 0 || !errors.Is(e, c.want) {
			t.Error(c.seq, c.n, got, e)
		}
	}
}

// P2.2: Room is the size, less what lies between.
func TestRoom(t *testing.T) {
	eight, _ := pow.Of(8)
	for _, c := range []struct{ claimed, least, want int64 }{
		{10, 5, 3}, {10, 10, 8}, {10, 3, 1}, {10, 2, 0}, {10, 1, 0}, {10, -1, 0}, {-1, -1, 8}, {6, -1, 1}, {7, -1, 0}, {0, -1, 7},
		{api.MaxSeq, api.MaxSeq, 8}, {api.MaxSeq, api.MaxSeq - 7, 1}, {api.MaxSeq, -1, 0},
		{10, 11, 0}, {-1, 0, 0}, {10, -2, 0}, {-1, -2, 0}, {0, -2, 0}, {math.MaxInt64, -1, 0}, {-1, math.MinInt64, 0}, {-2, -2, 0}, {-2, -1, 0}, {-2, -3, 0},
		{api.MaxSeq + 1, api.MaxSeq, 0}, {api.MaxSeq + 1, api.MaxSeq + 1, 0},
		{math.MaxInt64, math.MinInt64, 0}, {math.MinInt64, math.MaxInt64, 0}, {math.MinInt64, math.MinInt64, 0}, {math.MaxInt64, math.MaxInt64, 0},
	} {
		if got := eight.Room(c.claimed, c.least); got != c.want {
			t.Error(c.claimed, c.least, got)
		}
	}
	for _, s := range sizes(t) {
		if s.Room(-1, -1) != s.Slots() || s.Room(s.Mask(), -1) != 0 || s.Room(s.Mask()-1, -1) != 1 || s.Room(s.Mask(), 0) != 1 {
			t.Error(s.Slots())
		}
	}
}
