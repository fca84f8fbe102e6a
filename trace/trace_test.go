package trace_test

import (
	"math"
	"math/rand/v2"
	"noria/api"
	"noria/trace"
	"slices"
	"testing"
)

// ends are numbers near the ends of their type, and near the bounds that the document names.
var ends = []int64{math.MinInt64, -2, -1, 0, 1, api.MaxSeq - 1, api.MaxSeq, api.MaxSeq + 1, math.MaxInt64}

// shown, handled and moved are notes of these deeds.
func shown(who, ring int, lo, seq int64) api.Note {
	return api.Note{Who: who, Ring: ring, Deed: api.Shown, Lo: lo, Seq: seq}
}

func handled(who, ring int, seq int64) api.Note {
	return api.Note{Who: who, Ring: ring, Deed: api.Handled, Lo: seq, Seq: seq, X: api.Event{Key: seq, Val: int64(who)}}
}

func moved(who, ring int, lo, seq int64) api.Note {
	return api.Note{Who: who, Ring: ring, Deed: api.Moved, Lo: lo, Seq: seq}
}

func returned(who, ring int, code api.Errno) api.Note {
	return api.Note{Who: who, Ring: ring, Deed: api.Returned, Code: code}
}

// places are the places of notes in a list.
func places(l, of []api.Note) []int {
	var out []int
	for _, n := range of {
		out = append(out, slices.Index(l, n))
	}
	return out
}

// noted is a list of one note of each kind, and of some who are told apart by one field alone.
func noted() []api.Note {
	return []api.Note{
		{Who: 1, Ring: 0, Deed: api.Silent},
		shown(1, 0, 0, 2),
		handled(2, 0, 0),
		handled(2, 1, 0),
		handled(1, 0, 1),
		moved(2, 0, 0, 0),
		returned(1, 0, 0),
		{Who: 2, Ring: 1, Deed: api.Late, Seq: 7},
		returned(1, 1, api.ErrFull),
		{Who: 2, Ring: 0, Deed: api.Left, Seq: 0},
		{Who: 2, Ring: 0, Deed: api.Stopped, Seq: 0},
		{Who: -1, Ring: -1, Deed: 8},
		{Who: -1, Ring: -1, Deed: -1},
		returned(2, 0, -5),
	}
}

// P22.1: Of are the notes of an actor, in order.
func TestOf(t *testing.T) {
	l := noted()
	for who, want := range map[int][]int{1: {0, 1, 4, 6, 8}, 2: {2, 3, 5, 7, 9, 10, 13}, -1: {11, 12}, 0: nil, 3: nil, math.MaxInt: nil} {
		if got := places(l, trace.Of(l, who)); !slices.Equal(got, want) {
			t.Error(who, got, want)
		}
	}
	if len(trace.Of(nil, 0)) != 0 {
		t.Error("of none")
	}
}

// P22.1: At are those at a ring whose deed is one of these, all of them if none is named, in order, each once.
func TestAt(t *testing.T) {
	l := noted()
	for _, c := range []struct {
		ring  int
		deeds []api.Deed
		want  []int
	}{
		{0, nil, []int{0, 1, 2, 4, 5, 6, 9, 10, 13}},
		{0, []api.Deed{}, []int{0, 1, 2, 4, 5, 6, 9, 10, 13}},
		{1, nil, []int{3, 7, 8}},
		{2, nil, nil},
		{-1, nil, []int{11, 12}},
		{-1, []api.Deed{-1}, []int{12}},
		{-1, []api.Deed{8}, []int{11}},
		{0, []api.Deed{api.Silent}, []int{0}},
		{0, []api.Deed{api.Handled}, []int{2, 4}},
		{0, []api.Deed{api.Stopped, api.Shown}, []int{1, 10}},
		{0, []api.Deed{api.Handled, api.Handled, api.Moved}, []int{2, 4, 5}},
		{0, []api.Deed{api.Late}, nil},
		{0, []api.Deed{99, math.MinInt}, nil},
	} {
		if got := places(l, trace.At(l, c.ring, c.deeds...)); !slices.Equal(got, c.want) {
			t.Error(c.ring, c.deeds, got, c.want)
		}
	}
	if len(trace.At(nil, 0)) != 0 || len(trace.At(nil, 0, api.Shown)) != 0 {
		t.Error("at none")
	}
}

// P22.1: Counts is how many there are of each deed; a deed that is none counts nowhere.
func TestCounts(t *testing.T) {
	if got := trace.Counts(noted()); got != [8]int{1, 1, 3, 1, 3, 1, 1, 1} {
		t.Error(got)
	}
	if trace.Counts(nil) != [8]int{} || trace.Counts([]api.Note{{Deed: -1}, {Deed: 8}, {Deed: math.MinInt}, {Deed: math.MaxInt}}) != [8]int{} {
		t.Error("none")
	}
}

// P22.2: the spans that are shown are as few as can be, rising, whatever the order and however they overlap, of notes that are right alone.
func TestShown(t *testing.T) {
	const top = api.MaxSeq
	for _, c := range []struct {
		l    []api.Note
		want []trace.Span
	}{
		{nil, nil},
		{[]api.Note{shown(0, 0, 0, 2), shown(0, 0, 4, 4), shown(0, 0, 3, 3)}, []trace.Span{{Lo: 0, Hi: 4}}},
		{[]api.Note{shown(0, 0, 0, 2), shown(1, 0, 4, 4)}, []trace.Span{{Lo: 0, Hi: 2}, {Lo: 4, Hi: 4}}},
		{[]api.Note{shown(0, 0, 9, 9), shown(0, 0, 1, 1), shown(0, 0, 5, 7)}, []trace.Span{{Lo: 1, Hi: 1}, {Lo: 5, Hi: 7}, {Lo: 9, Hi: 9}}},
		{[]api.Note{shown(0, 0, 1, 9), shown(0, 0, 2, 3), shown(0, 0, 5, 5), shown(0, 0, 10, 11)}, []trace.Span{{Lo: 1, Hi: 11}}},
		{[]api.Note{shown(0, 0, 4, 6), shown(0, 0, 4, 6), shown(0, 0, 4, 5), shown(0, 0, 6, 8)}, []trace.Span{{Lo: 4, Hi: 8}}},
		{[]api.Note{shown(0, 1, 0, 2), shown(0, -1, 0, 2)}, nil},
		{[]api.Note{handled(0, 0, 0), moved(0, 0, 0, 3)}, nil},
		{[]api.Note{shown(0, 0, -1, 2), shown(0, 0, 3, 2), shown(0, 0, 5, top+1)}, nil},
		{[]api.Note{shown(0, 0, 0, top)}, []trace.Span{{Lo: 0, Hi: top}}},
		{[]api.Note{shown(0, 0, top, top), shown(0, 0, 0, 0)}, []trace.Span{{Lo: 0, Hi: 0}, {Lo: top, Hi: top}}},
		{[]api.Note{shown(0, 0, top, top), shown(0, 0, top-2, top-1)}, []trace.Span{{Lo: top - 2, Hi: top}}},
		{[]api.Note{shown(0, 0, math.MinInt64, math.MaxInt64), shown(0, 0, math.MaxInt64, math.MinInt64), shown(0, 0, math.MaxInt64, math.MaxInt64)}, nil},
	} {
		if got := trace.Shown(c.l, 0); !slices.Equal(got, c.want) {
			t.Error(c.l, got, c.want)
		}
	}
}

// P22.2: Length is how many there are from an index on, without a gap; none, if that one isn't shown.
func TestLength(t *testing.T) {
	const top = api.MaxSeq
	l := []api.Note{shown(0, 0, 0, 2), shown(0, 0, 4, 4), shown(0, 0, 3, 3), shown(0, 0, 7, 8), shown(0, 1, 5, 6), shown(0, 0, top, top)}
	for from, want := range map[int64]int64{-1: 0, 0: 5, 2: 3, 4: 1, 5: 0, 6: 0, 7: 2, 8: 1, 9: 0, top - 1: 0, top: 1, top + 1: 0, math.MaxInt64: 0, math.MinInt64: 0} {
		if got := trace.Length(l, 0, from); got != want {
			t.Error(from, got, want)
		}
	}
	if got := trace.Length([]api.Note{shown(0, 0, 0, top)}, 0, 0); got != top+1 {
		t.Error(got)
	}
	if trace.Length(nil, 0, 0) != 0 || trace.Length(l, 2, 0) != 0 {
		t.Error("none")
	}
}

// P22.3: Events are those of an actor's notes of Handled at a ring, in order.
func TestEvents(t *testing.T) {
	l := []api.Note{handled(1, 0, 5), handled(1, 1, 6), handled(2, 0, 7), shown(1, 0, 3, 3), handled(1, 0, 2), handled(1, 0, 5)}
	if got := trace.Events(l, 1, 0); !slices.Equal(got, []api.Event{{Key: 5, Val: 1}, {Key: 2, Val: 1}, {Key: 5, Val: 1}}) {
		t.Error(got)
	}
	if len(trace.Events(l, 1, 2)) != 0 || len(trace.Events(l, 3, 0)) != 0 || len(trace.Events(nil, 0, 0)) != 0 {
		t.Error("none")
	}
}

// P22.3: Rising says whether the Seq of these rise one by one from an index on, none of them above the greatest.
func TestRising(t *testing.T) {
	const top = api.MaxSeq
	for _, c := range []struct {
		from int64
		seqs []int64
		want bool
	}{
		{0, []int64{0, 1, 2}, true},
		{0, []int64{1, 2}, false},
		{0, []int64{0, 2}, false},
		{0, []int64{0, 0}, false},
		{0, []int64{0, 1, 0}, false},
		{5, []int64{5, 6}, true},
		{5, []int64{6, 5}, false},
		{-2, []int64{-2, -1, 0}, true},
		{7, nil, true},
		{math.MaxInt64, nil, true},
		{top - 1, []int64{top - 1, top}, true},
		{top, []int64{top, top + 1}, false},
		{top + 1, []int64{top + 1}, false},
		{math.MaxInt64, []int64{math.MaxInt64}, false},
		{math.MaxInt64, []int64{math.MaxInt64, math.MinInt64}, false},
		{math.MinInt64, []int64{math.MinInt64, math.MinInt64 + 1}, true},
	} {
		// What others do, and what is done elsewhere, is looked away from.
		l := []api.Note{handled(2, 0, 9), handled(1, 1, 8), shown(1, 0, 7, 7), moved(1, 0, 0, 3)}
		for _, i := range c.seqs {
			l = append(l, handled(1, 0, i), handled(2, 0, i+3), moved(1, 0, i, i))
		}
		if got := trace.Rising(l, 1, 0, c.from); got != c.want {
			t.Error(c, got)
		}
	}
	// It is the Seq that rises.
	if !trace.Rising([]api.Note{{Deed: api.Handled, Lo: 9, Seq: 0}, {Deed: api.Handled, Lo: 9, Seq: 1}}, 0, 0, 0) || !trace.Rising(nil, 0, 0, 3) {
		t.Error("Lo is looked at")
	}
}

// P22.3: Cursor is the Seq of an actor's last note of Moved at a ring.
func TestCursor(t *testing.T) {
	l := []api.Note{moved(1, 0, 0, 4), moved(1, 1, 0, 9), moved(2, 0, 5, 7), moved(1, 0, 5, 3), handled(1, 0, 8), moved(3, 0, 0, math.MinInt64)}
	for _, c := range []struct {
		who, ring int
		want      int64
	}{{1, 0, 3}, {1, 1, 9}, {2, 0, 7}, {2, 1, -1}, {4, 0, -1}, {3, 0, math.MinInt64}} {
		if got := trace.Cursor(l, c.who, c.ring); got != c.want {
			t.Error(c, got)
		}
	}
	if trace.Cursor(nil, 0, 0) != -1 {
		t.Error("of none")
	}
}

// P22.3: Calls are the Codes of an actor's notes of Returned, at whatever ring, in order.
func TestCalls(t *testing.T) {
	l := noted()
	if got := trace.Calls(l, 1); !slices.Equal(got, []api.Errno{0, api.ErrFull}) {
		t.Error(got)
	}
	if got := trace.Calls(l, 2); !slices.Equal(got, []api.Errno{-5}) {
		t.Error(got)
	}
	if len(trace.Calls(l, 3)) != 0 || len(trace.Calls(nil, 0)) != 0 {
		t.Error("none")
	}
}

// P22.4: Once says whether none of some actors handled at a ring what one of them handled there.
func TestOnce(t *testing.T) {
	for _, c := range []struct {
		l    []api.Note
		who  []int
		want bool
	}{
		{nil, nil, true},
		{nil, []int{0}, true},
		{[]api.Note{handled(1, 0, 0), handled(1, 0, 1)}, []int{1}, true},
		{[]api.Note{handled(1, 0, 0), handled(1, 0, 1)}, []int{1, 1}, true},
		{[]api.Note{handled(1, 0, 0), handled(1, 0, 1), handled(1, 0, 0)}, []int{1}, false},
		{[]api.Note{handled(1, 0, 0), handled(2, 0, 0)}, []int{1, 2}, false},
		{[]api.Note{handled(1, 0, 0), handled(2, 0, 0)}, []int{2, 1, 3}, false},
		{[]api.Note{handled(1, 0, 0), handled(2, 0, 0)}, []int{1}, true},
		{[]api.Note{handled(1, 0, 0), handled(2, 0, 0)}, []int{2, 3}, true},
		{[]api.Note{handled(1, 0, 0), handled(1, 0, 0)}, nil, true},
		{[]api.Note{handled(1, 0, 0), handled(2, 1, 0)}, []int{1, 2}, true},
		{[]api.Note{handled(1, 0, 0), shown(2, 0, 0, 0), moved(1, 0, 0, 0)}, []int{1, 2}, true},
		{[]api.Note{handled(1, 0, -7), handled(2, 0, -7)}, []int{1, 2}, false},
		{[]api.Note{{Deed: api.Handled, Lo: 1, Seq: 5}, {Deed: api.Handled, Lo: 1, Seq: 6}}, []int{0}, true},
		{[]api.Note{{Deed: api.Handled, Lo: 1, Seq: 5}, {Deed: api.Handled, Lo: 2, Seq: 5}}, []int{0}, false},
	} {
		if got := trace.Once(c.l, 0, c.who...); got != c.want {
			t.Error(c, got)
		}
	}
}

// P22.4: Behind is by how many notes of Handled at a ring one was behind the other, at most.
func TestBehind(t *testing.T) {
	one, two := handled(1, 0, 0), handled(2, 0, 0)
	for _, c := range []struct {
		l    []api.Note
		want int
	}{
		{nil, 0},
		{[]api.Note{one, one}, 0},
		{[]api.Note{two}, 1},
		{[]api.Note{two, two, one}, 2},
		{[]api.Note{one, two, two, one, two, two}, 2},
		{[]api.Note{one, one, one, two, two}, 0},
		{[]api.Note{two, one, one, one, two, two, two, two}, 2},
		{[]api.Note{handled(2, 1, 0), moved(2, 0, 0, 0), shown(2, 0, 0, 0), handled(3, 0, 0)}, 0},
		{[]api.Note{two, handled(1, 1, 0), moved(1, 0, 0, 0), handled(3, 0, 0), two}, 2},
	} {
		if got := trace.Behind(c.l, 0, 1, 2); got != c.want {
			t.Error(c, got)
		}
		if trace.Behind(c.l, 0, 2, 2) != 0 || trace.Behind(c.l, 0, 8, 9) != 0 {
			t.Error(c, "behind itself")
		}
	}
	if trace.Behind([]api.Note{two, two}, 0, 7, 2) != 2 || trace.Behind([]api.Note{two, two}, 0, 2, 7) != 0 {
		t.Error("of one who did nothing")
	}
}

// P22.4: Same says whether each actor's notes are the same in both, in order, whatever the turns among actors.
func TestSame(t *testing.T) {
	a, b, c := handled(1, 0, 0), handled(1, 0, 1), handled(2, 0, 0)
	for _, x := range []struct {
		l, m []api.Note
		want bool
	}{
		{nil, []api.Note{}, true},
		{[]api.Note{a, b, c}, []api.Note{a, b, c}, true},
		{[]api.Note{a, b, c}, []api.Note{c, a, b}, true},
		{[]api.Note{a, b, c}, []api.Note{a, c, b}, true},
		{[]api.Note{a, b, c}, []api.Note{b, a, c}, false},
		{[]api.Note{a, b, c}, []api.Note{a, b}, false},
		{[]api.Note{a, b}, []api.Note{a, b, c}, false},
		{[]api.Note{a, b, c}, []api.Note{a, b, b}, false},
		{[]api.Note{a, b, c}, []api.Note{a, c, c}, false},
		{[]api.Note{a}, nil, false},
		{[]api.Note{a, a}, []api.Note{a, a}, true},
		{[]api.Note{a, a, b}, []api.Note{a, b, b}, false},
	} {
		if trace.Same(x.l, x.m) != x.want || trace.Same(x.m, x.l) != x.want {
			t.Error(x)
		}
	}
	// Each field counts.
	whole := api.Note{Who: 1, Ring: 2, Deed: 3, Lo: 4, Seq: 5, X: api.Event{Key: 6, Val: 7}, Code: 8}
	for i, change := range []func(n *api.Note){
		func(n *api.Note) { n.Who++ }, func(n *api.Note) { n.Ring++ }, func(n *api.Note) { n.Deed++ }, func(n *api.Note) { n.Lo++ },
		func(n *api.Note) { n.Seq++ }, func(n *api.Note) { n.X.Key++ }, func(n *api.Note) { n.X.Val++ }, func(n *api.Note) { n.Code++ },
	} {
		n := whole
		change(&n)
		if trace.Same([]api.Note{whole}, []api.Note{n}) || !trace.Same([]api.Note{n}, []api.Note{n}) {
			t.Error(i)
		}
	}
}

// R3: what is handed in, with the room behind its end, isn't changed and not kept; what is handed out is new.
func TestOwn(t *testing.T) {
	was := []api.Note{shown(1, 0, 7, 9), shown(1, 0, 4, 4), handled(1, 0, 4), shown(1, 0, 0, 2), returned(1, 0, 3), moved(1, 0, 0, 4), handled(2, 0, 0)}
	room := slices.Clone(was)
	l := room[:5]
	deeds, who := []api.Deed{api.Shown, api.Handled, api.Moved}[:2], []int{1, 2, 3}[:2]
	for range 2 {
		of, at := trace.Of(l, 1), trace.At(l, 0)
		spans, events, calls := trace.Shown(l, 0), trace.Events(l, 1, 0), trace.Calls(l, 1)
		if len(of) != 5 || len(at) != 5 || len(spans) != 3 || len(events) != 1 || len(calls) != 1 {
			t.Fatal(of, at, spans, events, calls)
		}
		clear(of)
		clear(at)
		clear(spans)
		clear(events)
		clear(calls)
		trace.At(l, 0, deeds...)
		trace.Once(l, 0, who...)
		trace.Rising(l, 1, 0, 0)
		trace.Behind(l, 0, 1, 2)
		trace.Same(l, l[1:])
		trace.Length(l, 0, 0)
		trace.Counts(l)
	}
	if !slices.Equal(room, was) || !slices.Equal(deeds[:3], []api.Deed{api.Shown, api.Handled, api.Moved}) || !slices.Equal(who[:3], []int{1, 2, 3}) {
		t.Error("what was handed in was changed")
	}
}

// anyNotes are some notes, of few actors, rings and indexes, and now and then of numbers near the ends.
func anyNotes(g *rand.Rand) []api.Note {
	var l []api.Note
	number := func(n int) int {
		if g.IntN(40) == 0 {
			return int(ends[g.IntN(len(ends))])
		}
		return g.IntN(n)
	}
	for range g.IntN(30) {
		lo := int64(number(12))
		n := api.Note{Who: number(3), Ring: number(2), Deed: api.Deed(number(8)), Lo: lo, Seq: int64(number(12)), X: api.Event{Key: g.Int64N(3)}, Code: api.Errno(number(3))}
		if g.IntN(2) == 0 {
			n.Seq = lo
		}
		l = append(l, n)
	}
	return l
}

// plain is a list of notes, each of which is asked by itself.
type plain []api.Note

// has says whether an index is shown at a ring.
func (p plain) has(ring int, i int64) bool {
	for _, n := range p {
		if n.Ring == ring && n.Deed == api.Shown && n.Lo >= 0 && n.Seq <= api.MaxSeq && n.Lo <= i && i <= n.Seq {
			return true
		}
	}
	return false
}

// count is how many of the first notes are of one who handled at a ring.
func (p plain) count(upTo, who, ring int) int {
	c := 0
	for _, n := range p[:upTo] {
		if n.Who == who && n.Ring == ring && n.Deed == api.Handled {
			c++
		}
	}
	return c
}

// behind is by how many one was behind the other.
func (p plain) behind(ring, who, other int) int {
	most := 0
	for i := range p {
		most = max(most, p.count(i+1, other, ring)-p.count(i+1, who, ring))
	}
	return most
}

// twice says whether two places of the list have one index that some actors handled.
func (p plain) twice(ring int, who []int) bool {
	for i, a := range p {
		for _, b := range p[:i] {
			both := a.Deed == api.Handled && b.Deed == api.Handled && a.Ring == ring && b.Ring == ring
			if both && a.Seq == b.Seq && slices.Contains(who, a.Who) && slices.Contains(who, b.Who) {
				return true
			}
		}
	}
	return false
}

// P22.2, P22.4: of any lists of notes the answers are those of a plain reckoning.
func TestAny(t *testing.T) {
	g := rand.New(rand.NewPCG(22, 1))
	for range 4000 {
		l := anyNotes(g)
		p := plain(l)
		for ring := range 2 {
			spans := trace.Shown(l, ring)
			for i, s := range spans {
				if s.Lo > s.Hi || i > 0 && s.Lo <= spans[i-1].Hi+1 {
					t.Fatal(l, spans)
				}
				if p.has(ring, s.Lo-1) || p.has(ring, s.Hi+1) {
					t.Fatal(l, spans, "too short")
				}
			}
			for i := int64(-1); i < 14; i++ {
				in := slices.ContainsFunc(spans, func(s trace.Span) bool { return s.Lo <= i && i <= s.Hi })
				if in != p.has(ring, i) {
					t.Fatal(l, spans, i)
				}
				if n := trace.Length(l, ring, i); n < 50 {
					for k := range n {
						if !p.has(ring, i+k) {
							t.Fatal(l, i, n)
						}
					}
					if p.has(ring, i+n) {
						t.Fatal(l, i, n)
					}
				}
			}
			for _, who := range [][]int{{0, 1}, {2}, {0, 1, 2}, {1, 0, 1}, nil} {
				if trace.Once(l, ring, who...) == p.twice(ring, who) {
					t.Fatal(l, ring, who)
				}
			}
			for who := range 3 {
				for other := range 3 {
					if got, want := trace.Behind(l, ring, who, other), p.behind(ring, who, other); got != want {
						t.Fatal(l, ring, who, other, got, want)
					}
				}
			}
		}
	}
}

// P22.4: a list is the same as one of other turns among actors, and not as one in which two of one actor's notes that aren't the same stand the
// other way round.
func TestSameTurns(t *testing.T) {
	g := rand.New(rand.NewPCG(22, 2))
	apart := 0
	for range 4000 {
		l := anyNotes(g)
		m := slices.Clone(l)
		for range 40 {
			if i := g.IntN(len(m) + 1); i > 0 && i < len(m) && m[i].Who != m[i-1].Who {
				m[i], m[i-1] = m[i-1], m[i]
			}
		}
		if !trace.Same(l, m) || !trace.Same(m, l) {
			t.Fatal(l, m)
		}
		for i := 1; i < len(m); i++ {
			if m[i].Who == m[i-1].Who && m[i] != m[i-1] {
				m[i], m[i-1] = m[i-1], m[i]
				if trace.Same(l, m) || trace.Same(m, l) {
					t.Fatal(l, m)
				}
				apart++
				break
			}
		}
	}
	if apart < 1000 {
		t.Fatal(apart)
	}
}
