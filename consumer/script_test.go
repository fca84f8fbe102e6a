package consumer_test

import (
	"noria/actor"
	"noria/api"
	"noria/consumer"
	"noria/room"
	"noria/wait"
	"slices"
	"strconv"
	"strings"
	"testing"
)

// stage is a consumer, neither the first actor nor at the first ring, another actor that waits for news of that, and those ahead of it:
// their cells are the first ones.
type stage struct {
	*room.Room
	c     *consumer.Consumer
	other int
}

// set is a stage of so many slots.
func set(t *testing.T, slots int, k room.Kind, w wait.Way, batch int, ahead ...int64) *stage {
	t.Helper()
	s := &stage{Room: room.New()}
	var after []int
	for _, v := range ahead {
		id, e := s.Arena().Alloc(v)
		if e != nil {
			t.Fatal(e)
		}
		after = append(after, id)
	}
	s.Ring(1, room.Single)
	s.Ring(slots, k)
	s.other, _, _ = s.Join()
	s.c = handler(t, s.Room, 1, w, batch, after...)
	return s
}

// act does something beside the steps; false: it isn't known.
func (s *stage) act(what string, n int64) (ok bool, e error) {
	switch what {
	case "pub":
		e = publish(s.Room, 1, int(n))
	case "claim":
		_, e = claim(s.Room, 1, int(n))
	case "show":
		_, e = s.Show(1, n, n)
	case "ahead":
		e = s.Arena().Store(0, n)
	case "ahead1":
		e = s.Arena().Store(1, n)
	case "cursor":
		e = s.Arena().Store(s.Cursor(1), n)
	case "alert":
		e = s.Arena().Store(s.c.Alert(), n)
	case "tick":
		_, e = s.Tick(n)
	case "signal":
		_, e = s.Signal(1)
	case "wake":
		_, e = s.Wake(s.c.Who())
	case "halt":
		e = s.Halt(s.c.Who())
	case "other":
		if _, e = s.Park(s.other, 0); e == nil {
			e = s.Enlist(1, s.other)
		}
	default:
		return false, nil
	}
	return true, e
}

// ask asks something, and says what is wrong; false: it isn't known.
func (s *stage) ask(what string) (ok bool, why string) {
	switch what {
	case "ends", "goes":
		if s.c.Ends() != (what == "ends") {
			why = "it is not so that it " + what
		}
	case "leave":
		if n, e := s.c.Leave(); e != nil || n != (api.Note{Who: s.c.Who()}) {
			why = "the note of Leave"
		}
	case "gone":
		want := api.Note{Who: s.c.Who(), Ring: 1, Deed: api.Left, Seq: s.c.Next() - 1}
		if n, e := s.c.Leave(); e != nil || n != want || !s.c.Left() || s.holds() || len(s.Waiting(1)) > 0 {
			why = "it doesn't leave at once"
		}
	default:
		return false, ""
	}
	return true, why
}

// holds says whether the consumer holds the ring back.
func (s *stage) holds() bool { return slices.Contains(s.Gate(1).Cells(), s.c.Cell()) }

// word is what a step is: a (silent, with one step of a cell), - (silent, with none), e (so, and it is told of news then), z (so, and it
// is parked, with a timer for a number), s (so, and all are told of news), h (Handled), m (Moved, with one step of a cell), l (Late, with
// one), L (Left), x (Stopped). Behind a stands how often.
type word struct {
	kind   byte
	lo, hi int64
}

// note is what is seen of it.
func (w word) note(who int) api.Note {
	n := api.Note{Who: who, Ring: 1, Seq: w.hi}
	switch w.kind {
	case 'h':
		n.Deed, n.Lo, n.X = api.Handled, w.hi, event(w.hi)
	case 'm':
		n.Deed, n.Lo = api.Moved, w.lo
	case 'l':
		n.Deed = api.Late
	case 'L':
		n.Deed = api.Left
	case 'x':
		n.Deed = api.Stopped
	default:
		n.Seq = 0
	}
	return n
}

// state is what the consumer does behind it.
func (w word) state() actor.State {
	switch w.kind {
	case 'z':
		return actor.Parked
	case 'x':
		return actor.Halted
	}
	return actor.Ready
}

// cells is how many steps of cells it does.
func (w word) cells() int {
	if strings.IndexByte("aml", w.kind) >= 0 {
		return 1
	}
	return 0
}

// step does a step, and says what it isn't that a word tells.
func (s *stage) step(w word) string {
	was, parked, list := s.Arena().Steps(), s.Actors().State(s.other), s.Waiting(1)
	start, next, left := s.c.Start(), s.c.Next(), s.c.Left()
	n, e := s.c.Step()
	switch {
	case e != nil:
		return e.Error()
	case n != w.note(s.c.Who()):
		return "the note"
	case s.Actors().State(s.c.Who()) != w.state():
		return "the state"
	case s.Arena().Steps()-was != w.cells():
		return "the steps of cells"
	case w.kind == 'm' && s.c.Next() != w.hi+1 || w.kind != 'm' && s.c.Next() != next:
		return "the next index"
	case number(s.Room, s.c.Cell()) != s.c.Next()-1 || s.c.Start() != start:
		return "its cell, or its start"
	case s.c.Left() != (left || w.kind == 'L') || s.holds() == s.c.Left():
		return "who holds back"
	case w.kind == 'z' && !s.timer(w.hi):
		return "the timer"
	}
	return s.news(w, parked, list)
}

// news says what is wrong with who is told of news.
func (s *stage) news(w word, parked actor.State, list []int) string {
	switch w.kind {
	case 'e':
		if !slices.Contains(list, s.c.Who()) {
			list = append(list, s.c.Who())
		}
		if !slices.Equal(s.Waiting(1), list) {
			return "it isn't told of news"
		}
	case 's':
		if len(s.Waiting(1)) > 0 || s.Actors().State(s.other) == actor.Parked {
			return "somebody isn't told of news"
		}
	default:
		if s.Actors().State(s.other) != parked || !slices.Equal(list, s.Waiting(1)) {
			return "somebody is told of news"
		}
	}
	return ""
}

// timer says whether there is a timer for a time, and no other one; of 0 none.
func (s *stage) timer(at int64) bool {
	next, ok := s.Clock().Next()
	return next == at && ok == (at > 0) && (s.Clock().Waiting() == 1) == ok
}

// span are the two numbers of a text, or one twice.
func span(s string) (int64, int64) {
	i := strings.IndexByte(s, '~')
	hi, _ := strconv.ParseInt(s[i+1:], 10, 64)
	if i < 0 {
		return hi, hi
	}
	lo, _ := strconv.ParseInt(s[:i], 10, 64)
	return lo, hi
}

// play does what the words say.
func (s *stage) play(t *testing.T, text string) {
	t.Helper()
	for i, x := range strings.Fields(text) {
		what, num, _ := strings.Cut(x, ":")
		n, _ := strconv.ParseInt(num, 10, 64)
		ok, e := s.act(what, n)
		if e != nil {
			t.Fatal(text, i, x, e)
		}
		if ok {
			continue
		}
		if ok, why := s.ask(what); ok {
			if why != "" {
				t.Fatal(text, i, x, why)
			}
			continue
		}
		lo, hi := span(x[1:])
		times := int64(1)
		if x[0] == 'a' {
			times = max(1, hi)
		}
		for range times {
			if why := s.step(word{x[0], lo, hi}); why != "" {
				t.Fatal(text, i, x, why)
			}
		}
	}
}

// The ways of waiting of the scripts.
var (
	yield = wait.Way{Kind: wait.Yield, Tries: 2}
	never = wait.Way{Kind: wait.Yield}
	block = wait.Way{Kind: wait.Block}
	timed = wait.Way{Kind: wait.Timed, Time: 3}
)

// all are all ways.
var all = []wait.Way{spin, yield, never, block, timed}

// play plays texts, each on a stage of its own, of eight slots.
func play(t *testing.T, k room.Kind, w wait.Way, batch int, ahead []int64, texts ...string) {
	t.Helper()
	for _, text := range texts {
		set(t, 8, k, w, batch, ahead...).play(t, text)
	}
}

// P16.2: what a consumer of a ring of one does that finds events.
func TestFree(t *testing.T) {
	for _, w := range all {
		play(t, room.Single, w, 1, nil,
			"pub:1 a2 h0 m0 s",
			"pub:3 a2 h0 m0 s a2 h1 m1 s a2 h2 m2 s",
			"other pub:1 a2 h0 m0 other s pub:1 a2 other h1 m1 s",
			// What is published between counts, if the cursor is yet to be read.
			"a pub:1 a h0 m0 s",
			"pub:1 a2 pub:1 h0 m0 s a pub:1 a h1 m1 s a2 h2 m2 s",
		)
		play(t, room.Single, w, 3, nil,
			"pub:1 a2 h0 m0 s pub:2 a2 h1 h2 m1~2 s pub:3 a2 h3 h4 h5 m3~5 s",
			"pub:8 a2 h0 h1 h2 m0~2 s a2 h3 h4 h5 m3~5 s pub:1 a2 h6 h7 h8 m6~8 s",
			"pub:2 a pub:1 a pub:5 h0 h1 h2 m0~2 s",
			"pub:2 a2 pub:1 h0 h1 m0~1 s a2 h2 m2 s",
		)
		play(t, room.Single, w, 64, nil,
			"pub:8 a2 h0 h1 h2 h3 h4 h5 h6 h7 m0~7 s pub:8 a2 h8 h9 h10 h11 h12 h13 h14 h15 m8~15 s",
		)
	}
}

// P16.2: what a consumer of a ring of many does that finds events: it goes on up to the first index that isn't shown.
func TestFreeOfMany(t *testing.T) {
	for _, w := range all {
		play(t, room.Multi, w, 1, nil,
			"pub:1 a3 h0 m0 s",
			"pub:3 a5 h0 m0 s a4 h1 m1 s a3 h2 m2 s",
			"claim:3 show:0 show:2 a4 h0 m0 s",
			"claim:3 show:0 a3 show:1 a2 h0 m0 s a4 h1 m1 s show:2 a3 h2 m2 s",
		)
		play(t, room.Multi, w, 3, nil,
			"pub:2 a4 h0 h1 m0~1 s pub:3 a5 h2 h3 h4 m2~4 s",
			"pub:8 a10 h0 h1 h2 m0~2 s a7 h3 h4 h5 m3~5 s pub:6 a10 h6 h7 h8 m6~8 s",
			// What is claimed behind the reading of the cursor doesn't count.
			"pub:1 a2 pub:1 a h0 m0 s a3 h1 m1 s",
			"pub:1 a pub:2 a4 h0 h1 h2 m0~2 s",
		)
		play(t, room.Multi, w, 64, nil,
			"pub:8 a10 h0 h1 h2 h3 h4 h5 h6 h7 m0~7 s pub:8 a10 h8 h9 h10 h11 h12 h13 h14 h15 m8~15 s",
		)
		// Up to the greatest index.
		s := set(t, 8, room.Multi, w, 3)
		s.play(t, "cursor:4611686018427387901")
		d := handler(t, s.Room, 1, w, 3)
		s.Halt(s.c.Who())
		s.Gate(1).Drop(s.c.Cell())
		s.c = d
		s.play(t, "pub:3 a5 h4611686018427387902 h4611686018427387903 h4611686018427387904 m4611686018427387902~4611686018427387904 s")
	}
}

// P16.2, P16.4: who is behind others reads what they are done with, one by one, in order, and goes no further.
func TestBehind(t *testing.T) {
	for _, k := range kinds {
		for _, w := range all {
			play(t, k, w, 2, []int64{-1},
				"pub:8 ahead:0 a2 h0 m0 s ahead:7 a2 h1 h2 m1~2 s",
				"pub:8 a ahead:1 a h0 h1 m0~1 s",
				"pub:8 ahead:0 a2 ahead:5 h0 m0 s a2 h1 h2 m1~2 s",
			)
			play(t, k, w, 4, []int64{-1, 2},
				"pub:8 ahead:0 a3 h0 m0 s ahead:6 a3 h1 h2 m1~2 s ahead1:7 a3 h3 h4 h5 h6 m3~6 s",
				"pub:8 ahead:3 ahead1:0 a3 h0 m0 s",
				// Each counts as it is when it is read.
				"pub:8 a ahead:1 a ahead:0 ahead1:7 a h0 h1 m0~1 s",
				"pub:8 ahead:1 a2 ahead:7 ahead1:3 a h0 h1 m0~1 s",
			)
		}
	}
	// Whoever is ahead may be done with less than what the start is.
	for _, k := range kinds {
		play(t, k, spin, 2, []int64{-9}, "pub:8 a2 a2 ahead:-1 a2 a2 ahead:0 a2 h0 m0 s")
	}
}

// P16.2: what a consumer does that finds nothing, in each way of waiting.
func TestWaits(t *testing.T) {
	// Spin: it looks again and again.
	play(t, room.Single, spin, 2, nil, "a2 a2 a2 a2 a2 a2 pub:1 a2 h0 m0 s a2 a2 a2")
	// Yield: more often than its Tries, and it rests, ahead of each look then.
	play(t, room.Single, yield, 2, nil,
		"a2 a2 a2 - a2 - a2 - pub:3 a2 h0 h1 m0~1 s a2 h2 m2 s",
		"a2 a2 a2 pub:1 - a2 h0 m0 s",
		// Its patience begins anew behind a signal.
		"a2 a2 a2 - a2 - pub:1 a2 h0 m0 s a2 a2 a2 - a2 -",
		"a2 pub:1 a2 h0 m0 s a2 a2 a2 - a2",
	)
	play(t, room.Single, never, 2, nil, "a2 - a2 - pub:1 a2 h0 m0 s a2 - a2 -")
	// Block: it is told of news, looks once more, and is parked.
	play(t, room.Single, block, 2, nil,
		"a2 e a2 z signal a2 e a2 z wake a2 e a2 z pub:1 signal a2 h0 m0 s a2 e a2 z",
		"other a2 e a2 z signal other a2 e a2 z",
		// Its own signal wakes it, too, if it is in the list.
		"a2 e pub:1 a2 h0 m0 s a2 e a2 - a2 e a2 z",
		// Woken between, it isn't parked.
		"a2 e a2 signal - a2 e a2 z",
		"a2 e signal a2 - a2 e a2 z",
		"a2 e a2 pub:1 signal - a2 h0 m0 s",
		"wake a2 e a2 - a2 e a2 z",
		// Who is in the list already is in it once.
		"a2 e a2 wake - other a2 e a2 z other signal a2 e a2 z",
		"wake wake wake a2 e a2 - a2 e a2 z",
	)
	play(t, room.Multi, spin, 2, nil, "a2 a2 claim:2 a3 a3 show:1 a3 show:0 a4 h0 h1 m0~1 s a2 a2")
	play(t, room.Multi, yield, 2, nil, "a2 claim:2 a3 a3 - show:1 a3 - show:0 a4 h0 h1 m0~1 s a2 a2 a2 - a2")
	play(t, room.Multi, block, 2, nil,
		"a2 e a2 z claim:2 signal a3 e a3 z show:1 signal a3 e a3 z show:0 signal a4 h0 h1 m0~1 s a2 e a2 z",
		"a2 e a claim:1 a2 z show:0 signal a3 h0 m0 s",
	)
	for _, k := range kinds {
		play(t, k, block, 2, []int64{-1, 4}, "pub:8 a3 e a3 z wake a3 e a3 z ahead:1 signal a3 h0 h1 m0~1 s a3 e a3 z")
		play(t, k, yield, 2, []int64{-1}, "pub:8 a2 a2 a2 - a2 - ahead:0 a2 h0 m0 s a2 a2 a2 -")
	}
}

// P16.2, P16.8: who waits with a deadline does as one that Blocks till then; it begins anew where it is made, has signalled, or is late.
func TestTimed(t *testing.T) {
	play(t, room.Single, timed, 2, nil,
		"a2 e a2 z3 tick:2 signal a2 e a2 z3 tick:1 a l0 a2 e a2 z6",
		"a2 e a2 z3 tick:3 a l0 a2 e a2 z6 tick:3 a l0",
		"tick:2 a2 e a2 z3",
		"tick:3 a l0 a2 e a2 z6",
		"tick:9 a l0 a2 e a2 z12 tick:2 wake a2 e a2 z12 tick:9 a l0 a2 e a2 z23",
		"a tick:3 l0",
		"a2 tick:3 e a l0",
		"a2 e a tick:3 l0 a2 e a2 z6",
		// The time comes to its deadline between: it isn't parked.
		"a2 e a2 tick:3 - a l0 a2 e a2 z6",
		"a2 e a2 tick:2 z3",
		"a2 e a2 wake - a2 e a2 z3",
		// At its deadline it is late only if nothing is there.
		"a2 e a2 z3 pub:1 tick:3 a2 h0 m0 s a2 e a2 - a2 e a2 z6",
		"tick:9 pub:3 a2 h0 h1 m0~1 s a2 h2 m2 s a2 e a2 z12",
		// It begins by the time of the signal.
		"pub:1 a2 h0 tick:1 m0 tick:1 s tick:1 a2 e a2 z5 tick:2 a l1",
		"pub:1 a2 tick:9 h0 m0 s a2 e a2 z12",
		// Up to the greatest time.
		"tick:1099511627774 a l0 a2 e a2 z1099511627776 tick:2 a l0 a l0 a l0",
		"tick:1099511627773 a l0 a2 e a2 z1099511627776 signal pub:1 a2 h0 m0 s a2 e a2 z1099511627776 tick:3 a l1",
	)
	play(t, room.Multi, timed, 2, nil, "claim:2 show:1 a3 e a3 z3 tick:3 a2 l0 show:0 a4 h0 h1 m0~1 s a2 e a2 - a2 e a2 z6 tick:3 a l2")
	play(t, room.Multi, timed, 2, []int64{0}, "pub:2 a2 h0 m0 s a2 e a2 z3 tick:3 a l1 a2 e a2 z6 ahead:1 signal a2 h1 m1 s")
	for _, w := range []wait.Way{spin, yield, never, block} {
		play(t, room.Single, w, 2, nil, "tick:9 a2 tick:1099511627767")
	}
	// Others are never late, whatever the time.
	play(t, room.Single, block, 2, nil, "tick:1099511627776 a2 e a2 z wake a2 e a2 z")
}

// P16.2: who is told to stop ends at its next look: it leaves ahead of that, if it should.
func TestTold(t *testing.T) {
	for _, k := range kinds {
		for _, w := range all {
			play(t, k, w, 1, nil,
				"alert:1 a x-1",
				"leave a L-1 s x-1",
				"alert:1 leave a other L-1 other s x-1",
				"leave leave a L-1 s x-1",
				"alert:2 a2 x-1",
				"leave alert:2 a2 L-1 s x-1",
				"pub:1 alert:1 a x-1",
				// It should leave when it ends, though that is later, and by another word.
				"leave alert:0 wake alert:2 a2 L-1 s x-1",
				// Told to leave when it had ended, it stops, and leaves when it is told so again.
				"alert:1 a leave x-1 gone",
				"alert:2 a2 leave x-1 gone",
				"alert:1 a x-1 gone",
				"alert:1 a x-1 other gone",
				"halt gone", "a halt gone", "leave a halt gone",
			)
		}
	}
	for _, w := range all {
		play(t, room.Single, w, 2, nil,
			"pub:3 a alert:1 a h0 h1 m0~1 s a x1",
			"pub:3 a2 alert:1 h0 h1 m0~1 s a x1 gone",
			"pub:3 a2 h0 alert:1 h1 m0~1 s a x1",
			"pub:3 a2 h0 h1 alert:1 m0~1 s a x1",
			"pub:3 a2 h0 h1 m0~1 alert:1 s a x1",
			"pub:3 a2 h0 h1 m0~1 s leave a L1 s x1",
			"pub:3 a2 h0 leave h1 m0~1 s a L1 s x1",
			// Drain: it handles all that is there first.
			"pub:3 alert:2 a2 h0 h1 m0~1 s a2 h2 m2 s a2 x2",
			"pub:3 leave alert:2 a2 h0 h1 m0~1 s a2 h2 m2 s a2 L2 s x2",
			"pub:1 a2 alert:2 pub:1 h0 m0 s a pub:1 a h1 h2 m1~2 s a2 x2",
			// What the probe read counts.
			"alert:2 a alert:0 a x-1",
			"alert:2 a alert:0 pub:1 a h0 m0 s",
			// One that is told by another number goes on.
			"pub:1 alert:7 a2 h0 m0 s alert:-1 pub:1 a2 h1 m1 s",
		)
	}
	play(t, room.Single, spin, 2, nil, "a2 a alert:1 a a x-1", "a alert:2 a a2 x-1", "alert:7 a2 a2 alert:-1 a2 alert:2 a2 x-1", "leave alert:0 a2 a2 alert:1 a L-1 s x-1")
	play(t, room.Single, never, 2, nil, "a2 alert:1 - a x-1", "a alert:1 a - a x-1", "alert:9223372036854775807 a2 - a2 - alert:1 a x-1")
	play(t, room.Single, block, 2, nil,
		"a2 alert:1 e a x-1",
		"a2 e a alert:1 wake a - a x-1",
		"a2 e a2 alert:1 wake - a x-1",
		"a2 e a2 z alert:1 wake a x-1",
		"a2 e a2 z leave a L-1 s x-1",
		"a2 e a2 leave - a other L-1 s x-1",
		"a2 e a2 z alert:2 wake a2 x-1",
		"a2 e a2 z alert:2 pub:1 signal a2 h0 m0 s a2 x0",
	)
	play(t, room.Single, timed, 2, nil,
		"a2 e a2 z3 alert:1 tick:3 a x-1",
		"a2 e a2 z3 alert:2 tick:3 a2 x-1",
		"a2 e a2 z3 leave a L-1 s x-1",
	)
	play(t, room.Multi, spin, 2, nil, "claim:2 show:0 a2 alert:1 a2 h0 m0 s a x0", "claim:2 show:1 alert:2 a3 x-1", "pub:2 alert:2 a4 h0 h1 m0~1 s a2 x1")
	play(t, room.Multi, spin, 2, []int64{-1, -1}, "pub:2 a alert:1 a2 a x-1", "pub:2 ahead:0 alert:2 a3 x-1", "pub:2 alert:2 ahead:0 ahead1:0 a3 h0 m0 s a3 x0")
}

// P16.1: it ends when leave, bell or stop is next, or it looks, and what it read told it so.
func TestEnds(t *testing.T) {
	play(t, room.Single, spin, 2, nil,
		"goes a goes a goes a goes alert:1 goes a goes a ends x-1 ends",
		"goes leave goes a ends L-1 ends s ends x-1 ends",
		"goes alert:2 goes a ends a ends x-1 ends",
		"pub:3 alert:2 goes a ends a goes h0 goes h1 goes m0~1 goes s goes a ends a goes h2 goes m2 goes s goes a ends a ends x2 ends",
		"pub:1 alert:1 a ends x-1 ends gone ends",
		"alert:7 a ends a goes alert:-1 a ends alert:0 a goes a goes",
		"alert:2 a ends leave ends a ends L-1 ends s ends x-1 ends",
	)
	play(t, room.Single, yield, 2, nil, "alert:9 a ends a goes a ends alert:0 a goes a2 goes - goes")
	play(t, room.Single, block, 2, nil, "alert:9 a ends a goes e goes a ends a goes z goes wake goes a ends a goes e goes")
	play(t, room.Single, timed, 2, nil, "tick:3 alert:9 a ends l0 goes a ends a goes e goes")
	play(t, room.Multi, spin, 2, nil, "claim:2 show:0 alert:2 a ends a ends a ends a goes h0 goes m0 goes s goes a ends a ends a ends x0 ends")
	play(t, room.Multi, spin, 2, []int64{-1, -1}, "alert:2 a ends a ends a ends x-1 ends", "alert:5 a ends a ends a goes a ends")
}

// The examples of the chapter.
func TestExamples(t *testing.T) {
	play(t, room.Single, block, 1, nil, "a a e a a z", "pub:1 a a h0 m0 s")
}
