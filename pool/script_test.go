package pool_test

import (
	"noria/actor"
	"noria/api"
	"noria/pool"
	"noria/room"
	"noria/wait"
	"slices"
	"strconv"
	"strings"
	"testing"
)

// stage is a pool, neither of the first actor nor at the first ring, another actor that waits for news of that, and those ahead of it:
// their cells are the first ones.
type stage struct {
	*room.Room
	p *pool.Pool
	// The worker that steps.
	x *pool.Worker
	// The cells of those ahead.
	after []int
	other int
	start int64
}

// open is a stage of so many slots, yet without its pool, in which this is the first index.
func open(t *testing.T, slots int, k room.Kind, first int64, ahead ...int64) *stage {
	t.Helper()
	s := &stage{Room: room.New()}
	for _, v := range ahead {
		id, e := s.Arena().Alloc(v)
		if e != nil {
			t.Fatal(e)
		}
		s.after = append(s.after, id)
	}
	s.Ring(1, room.Single)
	s.Ring(slots, k)
	s.other, _, _ = s.Join()
	if first > 0 {
		// Only a ring of many goes on by what this cell has.
		s.Arena().Store(s.Cursor(1), first-1)
	}
	return s
}

// gather lets it have a pool.
func (s *stage) gather(t *testing.T, w wait.Way, n int) *stage {
	t.Helper()
	s.start = number(s.Room, s.Cursor(1)) + 1
	s.p = gang(t, s.Room, 1, w, n, s.after...)
	s.x = s.p.Workers()[0]
	return s
}

// set is a stage of so many slots, with a pool of so many.
func set(t *testing.T, slots int, k room.Kind, w wait.Way, n int, ahead ...int64) *stage {
	t.Helper()
	return open(t, slots, k, 0, ahead...).gather(t, w, n)
}

// act does something beside the steps; false: it isn't known.
func (s *stage) act(what string, n int64) (ok bool, e error) {
	switch what {
	case "pub":
		e = publish(s.Room, 1, int(n))
	case "claim":
		_, e = claim(s.Room, 1, int(n))
	case "show":
		_, e = s.Show(1, n, n)
	case "ahead":
		e = s.Arena().Store(0, n)
	case "ahead1":
		e = s.Arena().Store(1, n)
	case "by":
		s.x = s.p.Workers()[n]
	case "alert":
		e = s.Arena().Store(s.x.Alert(), n)
	case "tick":
		_, e = s.Tick(n)
	case "signal":
		_, e = s.Signal(1)
	case "wake":
		_, e = s.Wake(s.x.Who())
	case "halt":
		e = s.Halt(s.x.Who())
	case "other":
		if _, e = s.Park(s.other, 0); e == nil {
			e = s.Enlist(1, s.other)
		}
	default:
		return false, nil
	}
	return true, e
}

// word is what a step is: a (silent, with one load), - (silent, with none), e (so, and it is told of news then), z (so, and it is parked,
// with a timer for a number), s (so, and all are told of news), w (silent, with the swap of what all share, to a number), h (Handled), m
// (Moved, with the store in its own cell), l (Late, with one load), L (Left, with the store in its own cell), x (Stopped). Behind a stands
// how often.
type word struct {
	kind   byte
	lo, hi int64
}

// note is what is seen of it.
func (w word) note(who int) api.Note {
	n := api.Note{Who: who, Ring: 1, Seq: w.hi}
	switch w.kind {
	case 'h':
		n.Deed, n.Lo, n.X = api.Handled, w.hi, event(w.hi)
	case 'm':
		n.Deed, n.Lo = api.Moved, w.lo
	case 'l':
		n.Deed = api.Late
	case 'L':
		n.Deed = api.Left
	case 'x':
		n.Deed = api.Stopped
	default:
		n.Seq = 0
	}
	return n
}

// state is what the worker does behind it.
func (w word) state() actor.State {
	switch w.kind {
	case 'z':
		return actor.Parked
	case 'x':
		return actor.Halted
	}
	return actor.Ready
}

// cells is how many steps of cells it does.
func (w word) cells() int {
	if strings.IndexByte("awmlL", w.kind) >= 0 {
		return 1
	}
	return 0
}

// all are what all cells have, without a step.
func (s *stage) all() []int64 {
	a := s.Arena().Clone()
	l := make([]int64, a.Len())
	for id := range l {
		l[id], _ = a.Load(id)
	}
	return l
}

// step does a step, and says what it isn't that a word tells.
func (s *stage) step(w word) string {
	want, was, group := s.all(), s.Arena().Steps(), s.Gate(1).Cells()
	parked, list := s.Actors().State(s.other), s.Waiting(1)
	n, e := s.x.Step()
	switch w.kind {
	case 'w':
		want[s.p.Cells()[0]] = w.hi
	case 'm':
		want[s.x.Cell()] = w.hi
	case 'L':
		want[s.x.Cell()] = pool.Free
	}
	switch {
	case e != nil:
		return e.Error()
	case n != w.note(s.x.Who()):
		return "the note"
	case s.Actors().State(s.x.Who()) != w.state():
		return "the state"
	case s.Arena().Steps()-was != w.cells():
		return "the steps of cells"
	case !slices.Equal(s.all(), want):
		return "what the cells have"
	case !slices.Equal(s.Gate(1).Cells(), group) || s.p.Start() != s.start:
		return "who holds back, or its start"
	case w.kind == 'z' && !s.timer(w.hi):
		return "the timer"
	}
	return s.news(w, parked, list)
}

// news says what is wrong with who is told of news.
func (s *stage) news(w word, parked actor.State, list []int) string {
	switch w.kind {
	case 'e':
		if !slices.Contains(list, s.x.Who()) {
			list = append(list, s.x.Who())
		}
		if !slices.Equal(s.Waiting(1), list) {
			return "it isn't told of news"
		}
	case 's':
		if len(s.Waiting(1)) > 0 || s.Actors().State(s.other) == actor.Parked {
			return "somebody isn't told of news"
		}
	default:
		if s.Actors().State(s.other) != parked || !slices.Equal(list, s.Waiting(1)) {
			return "somebody is told of news"
		}
	}
	return ""
}

// timer says whether there is a timer for a time, as the next one; of 0 none.
func (s *stage) timer(at int64) bool {
	next, ok := s.Clock().Next()
	return next == at && ok == (at > 0) && (s.Clock().Waiting() == 1) == ok
}

// span are the two numbers of a text, or one twice.
func span(s string) (int64, int64) {
	i := strings.IndexByte(s, '~')
	hi, _ := strconv.ParseInt(s[i+1:], 10, 64)
	if i < 0 {
		return hi, hi
	}
	lo, _ := strconv.ParseInt(s[:i], 10, 64)
	return lo, hi
}

// play does what the words say.
func (s *stage) play(t *testing.T, text string) {
	t.Helper()
	for i, x := range strings.Fields(text) {
		what, num, _ := strings.Cut(x, ":")
		n, _ := strconv.ParseInt(num, 10, 64)
		ok, e := s.act(what, n)
		if e != nil {
			t.Fatal(text, i, x, e)
		}
		if ok {
			continue
		}
		if x == "ends" || x == "goes" {
			if s.x.Ends() != (x == "ends") {
				t.Fatal(text, i, "it is not so that it", x)
			}
			continue
		}
		lo, hi := span(x[1:])
		times := int64(1)
		if x[0] == 'a' {
			times = max(1, hi)
		}
		for range times {
			if why := s.step(word{x[0], lo, hi}); why != "" {
				t.Fatal(text, i, x, why)
			}
		}
	}
}

// The ways of waiting of the scripts.
var (
	yield = wait.Way{Kind: wait.Yield, Tries: 2}
	never = wait.Way{Kind: wait.Yield}
	block = wait.Way{Kind: wait.Block}
	timed = wait.Way{Kind: wait.Timed, Time: 3}
)

// all are all ways.
var all = []wait.Way{spin, yield, never, block, timed}

// play plays texts, each on a stage of its own, of eight slots and two workers.
func play(t *testing.T, k room.Kind, w wait.Way, ahead []int64, texts ...string) {
	t.Helper()
	for _, text := range texts {
		set(t, 8, k, w, 2, ahead...).play(t, text)
	}
}

// P17.2: what the workers of a ring of one do that find events.
func TestTakes(t *testing.T) {
	for _, w := range all {
		play(t, room.Single, w, nil,
			"pub:1 a3 w0 h0 a m0 s a2",
			"pub:3 a3 w0 h0 a m0 s a2 w1 h1 a m1 s a2 w2 h2 a m2 s a2",
			"other pub:1 a3 w0 h0 a m0 other s pub:1 a2 other w1 h1 a m1 s",
			// What is published between counts, if the cursor is yet to be read.
			"a pub:1 a2 w0 h0 a m0 s",
			"a2 pub:1 a w0 h0 a m0 s a pub:1 a w1 h1 a m1 s",
			// Each takes its turn: who comes too late goes back, and holds back no more at what the other one took.
			"pub:1 a3 by:1 a3 by:0 w0 by:1 a a m0 s a2 by:0 h0 a m0 s a2",
			"pub:2 a3 by:1 a3 by:0 w0 by:1 a a m0 s a2 by:0 h0 by:1 w1 h1 by:0 a m0~1 s by:1 a m1 s",
			"pub:2 a3 w0 h0 by:1 a m0 s a2 w1 by:0 a m0~1 s by:1 h1 a m1 s a2",
			"pub:4 a3 w0 h0 a m0 s a2 w1 h1 a m1 s a2 by:1 a m0~1 s a2 w2 by:0 a a m2 s a2 w3 by:1 h2 by:0 h3 by:1 a m2~3 s by:0 a m3 s",
			// What was read counts till it is read anew.
			"a by:1 pub:2 a3 w0 h0 a m0 s a2 w1 h1 by:0 a2 a a m0~1 s",
			"pub:3 a by:1 a3 w0 h0 by:0 a by:1 a m0 s a2 w1 by:0 a a a m0~1 s a2 w2 by:1 h1 by:0 h2",
		)
	}
	// More than the slots, round by round, by turns.
	s := set(t, 2, room.Single, spin, 2)
	for seq := range 20 {
		n := strconv.Itoa(seq)
		s.play(t, "by:"+strconv.Itoa(seq%2)+" pub:1 a3 w"+n+" h"+n+" a m"+n+" s a2 by:"+strconv.Itoa(1-seq%2)+" a m"+n+" s a2")
	}
}

// P17.2: what the workers of a ring of many do that find events: they ask for the one index that is next, and what is shown behind it.
func TestTakesOfMany(t *testing.T) {
	for _, w := range all {
		play(t, room.Multi, w, nil,
			"pub:1 a4 w0 h0 a m0 s a2",
			"pub:3 a6 w0 h0 a m0 s a4 w1 h1 a m1 s a3 w2 h2 a m2 s a2",
			"claim:3 show:0 show:2 a5 w0 h0 a m0 s a3",
			"claim:3 show:0 a4 show:1 a2 w0 h0 a m0 s a4 w1 h1 a m1 s show:2 a3 w2 h2 a m2 s",
			"pub:8 a11 w0 h0 a m0 s a9 w1 h1 a m1 s",
			"pub:2 a5 by:1 a5 w0 by:0 a a m0 s a3 w1 h1 by:1 h0 a m0~1 s",
			// What is claimed behind the reading of the cursor doesn't count.
			"pub:1 a3 pub:1 a w0 h0 a m0 s a3 w1 h1",
		)
	}
}

// P17.2, P17.4: who is behind others reads what they are done with, one by one, in order, and goes no further.
func TestBehind(t *testing.T) {
	for _, k := range kinds {
		for _, w := range all {
			play(t, k, w, []int64{-1},
				"pub:8 ahead:0 a3 w0 h0 a m0 s a2",
				"pub:8 ahead:1 a3 w0 h0 a m0 s a2 w1 h1 a m1 s a2",
				"pub:8 a2 ahead:0 a w0 h0 a m0 s",
				"pub:8 ahead:0 a3 by:1 a3 by:0 w0 ahead:1 by:1 a a m0 s a2 w1 by:0 h0 by:1 h1",
			)
			play(t, k, w, []int64{-1, 2},
				"pub:8 ahead:0 a4 w0 h0 a m0 s a3",
				"pub:8 ahead:3 ahead1:0 a4 w0 h0 a m0 s a3",
				// Each counts as it is when it is read.
				"pub:8 a2 ahead:1 a ahead:0 ahead1:7 a w0 h0 a m0 s a3",
				"pub:8 a2 ahead:0 a ahead1:-1 a",
			)
		}
	}
	// Whoever is ahead may be done with less than what the start is.
	for _, k := range kinds {
		play(t, k, spin, []int64{-9}, "pub:8 a3 a3 ahead:-1 a3 a3 ahead:0 a3 w0 h0 a m0 s")
	}
}

// P17.2: what a worker does that finds nothing, in each way of waiting: it reads anew what all share, whatever it did.
func TestWaits(t *testing.T) {
	// Spin: it looks again and again.
	play(t, room.Single, spin, nil,
		"a3 a3 a3 a3 a3 a3 pub:1 a3 w0 h0 a m0 s a2 a3 a3",
		"a3 by:1 pub:1 a3 w0 h0 by:0 a m0 s a2 a3",
	)
	// Yield: more often than its Tries, and it rests, each time then.
	play(t, room.Single, yield, nil,
		"a3 a3 a3 - a3 - a3 - pub:2 a3 w0 h0 a m0 s a2 w1 h1 a m1 s",
		"a3 a3 a3 pub:1 - a3 w0 h0",
		"a3 a3 a3 by:1 pub:1 a3 w0 h0 by:0 - a m0 s a2 - a3 -",
		// Its patience begins anew when it has handled an event, not when another one has, nor when it moves.
		"a3 a3 a3 - pub:1 a3 w0 h0 a m0 s a2 a3 a3 - a3 -",
		"a3 pub:1 a3 w0 h0 a m0 s a2 a3 a3 - a3",
		"a3 a3 by:1 pub:1 a3 w0 h0 by:0 a m0 s a2 - a3 -",
		"a3 a3 pub:1 a3 by:1 a3 w0 h0 by:0 a a m0 s a2 - a3 -",
	)
	play(t, room.Single, never, nil, "a3 - a3 - pub:1 a3 w0 h0 a m0 s a2 - a3 -")
	// Block: it is told of news, looks once more, and is parked.
	play(t, room.Single, block, nil,
		"a3 e a3 z signal a3 e a3 z wake a3 e a3 z pub:1 signal a3 w0 h0 a m0 s a2 e a3 z",
		"other a3 e a3 z signal other a3 e a3 z",
		"a3 e a3 z by:1 a3 e a3 z pub:1 signal a3 by:0 a3 w0 by:1 a a m0 s a2 e by:0 h0 a m0 s a2 e a3 z by:1 a3 - a3 e a3 z",
		// Its own signal wakes it, too, if it is in the list.
		"a3 e pub:1 a3 w0 h0 a m0 s a2 e a3 - a3 e a3 z",
		"a3 e by:1 pub:1 a3 w0 h0 by:0 a m0 s a2 - a3 e a3 z",
		// Woken between, it isn't parked.
		"a3 e a3 signal - a3 e a3 z",
		"a3 e signal a3 - a3 e a3 z",
		"a3 e a3 pub:1 signal - a3 w0 h0 a m0 s",
		"wake a3 e a3 - a3 e a3 z",
		// Whatever another one took meanwhile, it moves first.
		"a3 by:1 pub:1 a3 w0 h0 by:0 e a m0 s a2 - a3 e a3 z",
		"a3 e a3 z by:1 pub:1 a3 w0 h0 by:0 signal a m0 s a2 e a3 z",
		// Who is in the list already is in it once.
		"a3 e a3 wake - other a3 e a3 z other signal a3 e a3 z",
		"wake wake wake a3 e a3 - a3 e a3 z",
	)
	play(t, room.Multi, spin, nil, "a3 a3 claim:2 a4 a4 show:1 a4 show:0 a5 w0 h0 a m0 s a3 w1 h1 a m1 s a2 a3")
	play(t, room.Multi, yield, nil, "a3 claim:2 a4 a4 - show:1 a4 - show:0 a5 w0 h0 a m0 s")
	play(t, room.Multi, block, nil,
		"a3 e a3 z claim:2 signal a4 e a4 z show:1 signal a4 e a4 z show:0 signal a5 w0 h0 a m0 s a3 w1 h1 a m1 s a2 e a3 z",
		"a3 e a2 claim:1 a2 z show:0 signal a4 w0 h0 a m0 s",
	)
	for _, k := range kinds {
		play(t, k, block, []int64{-1, 4}, "pub:8 a4 e a4 z wake a4 e a4 z ahead:0 signal a4 w0 h0 a m0 s a3 e a4 z")
		play(t, k, yield, []int64{-1}, "pub:8 a3 a3 a3 - a3 - ahead:0 a3 w0 h0 a m0 s a2 a3 a3 -")
	}
}

// P17.2: who waits with a deadline does as one that Blocks till then; it begins anew where the pool is made, and it has handled, or is late.
func TestTimed(t *testing.T) {
	play(t, room.Single, timed, nil,
		"a3 e a3 z3 tick:2 signal a3 e a3 z3 tick:1 a2 l0 a3 e a3 z6",
		"a3 e a3 z3 tick:3 a2 l0 a3 e a3 z6 tick:3 a2 l0",
		"tick:2 a3 e a3 z3",
		"tick:3 a2 l0 a3 e a3 z6",
		"tick:9 a2 l0 a3 e a3 z12 tick:2 wake a3 e a3 z12 tick:9 a2 l0 a3 e a3 z23",
		"a2 tick:3 l0",
		"a3 tick:3 e a2 l0",
		"a3 e a2 tick:3 l0 a3 e a3 z6",
		// The time comes to its deadline between: it isn't parked.
		"a3 e a3 tick:3 - a2 l0 a3 e a3 z6",
		"a3 e a3 tick:2 z3",
		"a3 e a3 wake - a3 e a3 z3",
		// At its deadline it is late only if nothing is there.
		"a3 e a3 z3 pub:1 tick:3 a3 w0 h0 a m0 s a2 e a3 - a3 e a3 z6",
		"tick:9 pub:2 a3 w0 h0 a m0 s a2 w1 h1 a m1 s a2 e a3 z12",
		// It begins by the time at which it handled.
		"pub:1 a3 tick:1 w0 tick:1 h0 tick:1 a m0 s a2 e a3 z5 tick:2 a2 l1",
		"pub:1 a3 w0 tick:9 h0 a m0 s a2 e a3 z12",
		// What another one took moves its next index, not its deadline.
		"by:1 pub:1 a3 w0 h0 by:0 tick:2 a m0 s a2 e a3 z3 tick:1 a2 l1 a3 e a3 z6",
		"pub:1 a3 tick:2 by:1 a3 w0 h0 by:0 a a m0 s a tick:1 l1",
		// Up to the greatest time.
		"tick:1099511627774 a2 l0 a3 e a3 z1099511627776 tick:2 a2 l0 a2 l0 a2 l0",
	)
	play(t, room.Multi, timed, nil, "claim:2 show:1 a4 e a4 z3 tick:3 a3 l0 show:0 a5 w0 h0 a m0 s a3 w1 h1 a m1 s a2 e a3 - a3 e a3 z6 tick:3 a2 l2")
	play(t, room.Multi, timed, []int64{0}, "pub:2 a3 w0 h0 a m0 s a2 e a3 z3 tick:3 a2 l1 a3 e a3 z6 ahead:1 signal a3 w1 h1 a m1 s")
	for _, w := range []wait.Way{spin, yield, never, block} {
		play(t, room.Single, w, nil, "tick:9 a3 tick:1099511627767")
	}
	// Others are never late, whatever the time.
	play(t, room.Single, block, nil, "tick:1099511627776 a3 e a3 z wake a3 e a3 z")
}

// P17.1, P17.2: a pool that is made later begins behind what is published then, and its patience by the time then.
func TestLater(t *testing.T) {
	for _, k := range kinds {
		for _, w := range all {
			s := open(t, 8, k, 0)
			s.play(t, "tick:9 pub:5")
			s.gather(t, w, 2).play(t, "a3 by:1 alert:1 a2 L4 other s x4")
		}
	}
	s := open(t, 8, room.Single, 0)
	s.play(t, "tick:9 pub:5")
	s.gather(t, timed, 2).play(t, "a3 e a3 z12 pub:1 signal a3 w5 h5 a m5 s by:1 a m5 s tick:3 a l6")
}

// P17.3: up to the greatest index.
func TestGreatest(t *testing.T) {
	s := open(t, 8, room.Multi, api.MaxSeq-1)
	s.gather(t, block, 2).play(t, "pub:2 a5 w4611686018427387903 h4611686018427387903 a m4611686018427387903 s a3 w4611686018427387904 h4611686018427387904 a m4611686018427387904 s a2 e a3 z "+
		"by:1 a m4611686018427387903~4611686018427387904 s a2 e a3 z alert:1 wake a2 L4611686018427387904 s x4611686018427387904")
}

// P17.2: who is told to stop is free at its next look; what it took it handles first.
func TestTold(t *testing.T) {
	for _, k := range kinds {
		for _, w := range all {
			play(t, k, w, nil,
				"alert:1 a2 L-1 s x-1",
				"alert:2 a3 L-1 s x-1",
				"a alert:1 a L-1 other s x-1",
				"pub:1 alert:1 a2 L-1 s x-1",
			)
		}
	}
	for _, w := range all {
		play(t, room.Single, w, nil,
			// While one stops, the other one goes on, and takes what there is.
			"pub:2 alert:1 a2 by:1 a3 w0 by:0 L-1 by:1 h0 a m0 s by:0 s by:1 a2 w1 by:0 x-1 by:1 h1 a m1 s a2",
			"pub:2 a2 alert:1 a w0 h0 a m0 s a L0 s x0",
			"pub:2 a3 alert:1 w0 h0 a m0 s a L0 s x0",
			"pub:2 a3 w0 alert:1 h0 a m0 s a L0 s x0",
			"pub:2 a3 w0 h0 alert:1 a m0 s a L0 s x0",
			"pub:2 a3 w0 h0 a alert:1 m0 s a L0 s x0",
			"pub:2 a3 w0 h0 a m0 s alert:1 a L0 s x0 by:1 a m0 s a2 w1 h1 a m1 s",
			// The swap is another one's: nothing is left to be handled.
			"pub:2 a3 by:1 a3 w0 by:0 alert:1 a a m0 s a L0 s x0 by:1 h0 a m0 s a2 w1",
			// Drain: it handles all that is there first.
			"pub:2 alert:2 a3 w0 h0 a m0 s a2 w1 h1 a m1 s a2 L1 s x1",
			"pub:1 a3 alert:2 pub:1 w0 h0 a m0 s a2 w1 h1 a m1 s a2 L1 s x1",
			"pub:2 alert:2 a3 by:1 a3 w0 by:0 a a m0 s a2 w1 h1 a m1 s a2 L1 s x1",
			// What the probe read counts.
			"alert:2 a2 alert:0 a L-1 s x-1",
			"alert:2 a2 alert:0 pub:1 a w0 h0 a m0 s a2",
			"alert:1 a2 alert:0 L-1 s x-1",
			// One that is told by another number goes on.
			"pub:1 alert:7 a3 w0 h0 a m0 s alert:-1 pub:1 a2 w1 h1 a m1 s",
		)
	}
	play(t, room.Single, spin, nil, "a3 a2 alert:1 a a2 L-1 s x-1", "a2 alert:2 a a3 L-1 s x-1", "alert:7 a3 a3 alert:-1 a3 alert:2 a3 L-1 s x-1")
	play(t, room.Single, never, nil, "a3 alert:1 - a2 L-1 s x-1", "a2 alert:1 a - a2 L-1 s x-1", "alert:9223372036854775807 a3 - a3 - alert:1 a2 L-1 s x-1")
	play(t, room.Single, block, nil,
		"a3 alert:1 e a2 L-1 s x-1",
		"a3 e a2 alert:1 wake a - a2 L-1 s x-1",
		"a3 e a3 alert:1 wake - a2 L-1 s x-1",
		"a3 e a3 z alert:1 wake a2 L-1 s x-1",
		"a3 e a3 z alert:2 wake a3 L-1 s x-1",
		"a3 e a3 z alert:2 pub:1 signal a3 w0 h0 a m0 s a2 L0 s x0",
		"a3 e a3 z by:1 pub:1 a3 w0 h0 by:0 alert:1 wake a m0 s a L0 s x0",
		// Those who wait for news are told when it is free, itself too.
		"a3 e alert:1 a2 other L-1 s x-1",
	)
	play(t, room.Single, timed, nil,
		"a3 e a3 z3 alert:1 tick:3 a2 L-1 s x-1",
		"a3 e a3 z3 alert:2 tick:3 a3 L-1 s x-1",
	)
	play(t, room.Multi, spin, nil, "claim:2 show:0 a3 alert:1 a2 w0 h0 a m0 s a L0 s x0", "claim:2 show:1 alert:2 a4 L-1 s x-1", "pub:2 alert:2 a5 w0 h0 a m0 s a3 w1 h1 a m1 s a2 L1 s x1")
	play(t, room.Multi, spin, []int64{-1, -1}, "pub:2 a2 alert:1 a2 a2 L-1 s x-1", "pub:2 ahead:0 alert:2 a4 L-1 s x-1", "pub:2 alert:2 ahead:0 ahead1:0 a4 w0 h0 a m0 s a3 L0 s x0")
}

// P17.1: it ends when free, bell or stop is next, or it looks, and what it read told it so.
func TestEnds(t *testing.T) {
	play(t, room.Single, spin, nil,
		"goes a goes a goes a goes a goes alert:1 goes a ends L-1 ends s ends x-1 ends",
		"alert:1 goes a goes a ends by:1 goes by:0 L-1 ends s ends x-1 ends by:1 goes",
		"goes alert:2 goes a goes a ends a ends L-1 ends s ends x-1 ends",
		"pub:2 alert:2 a goes a ends a goes w0 goes h0 goes a goes m0 goes s goes a ends a goes w1 goes h1 goes a goes m1 goes s goes a ends a ends L1 ends s ends x1 ends",
		"alert:2 pub:1 a2 ends by:1 a3 w0 h0 by:0 a goes a goes a goes m0 goes s goes a ends",
		"alert:7 a goes a ends a goes a goes a ends alert:0 a goes a goes a goes",
		"alert:-1 a2 ends a goes",
	)
	play(t, room.Single, yield, nil, "alert:9 a2 ends a goes a2 ends a goes a2 ends alert:0 a goes - goes")
	play(t, room.Single, block, nil, "alert:9 a2 ends a goes e goes a goes a ends a goes z goes wake goes a goes a ends a goes e goes")
	play(t, room.Single, timed, nil, "tick:3 alert:9 a2 ends l0 goes a goes a ends a goes e goes")
	play(t, room.Multi, spin, nil, "claim:2 show:0 alert:2 a2 ends a ends a ends a goes w0 goes h0 goes a goes m0 goes s goes a ends a ends a ends L0 ends s ends x0 ends")
	play(t, room.Multi, spin, []int64{-1, -1}, "alert:2 a2 ends a ends a ends L-1 ends s ends x-1 ends", "alert:5 a2 ends a ends a goes a2 ends")
	play(t, room.Single, spin, nil, "alert:1 a2 halt ends", "alert:7 a2 halt ends", "pub:1 a3 halt goes", "halt goes")
}

// The examples of the chapter.
func TestExamples(t *testing.T) {
	for _, w := range all {
		play(t, room.Single, w, nil,
			"pub:1 a by:1 a by:0 a2 by:1 a2 by:0 w0 h0 by:1 a a m0 s",
			"pub:1 a3 alert:1 w0 h0 a m0 s a L0 s x0",
		)
	}
}
