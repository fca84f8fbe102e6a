package poller_test

import (
	"noria/actor"
	"noria/api"
	"noria/poller"
	"noria/room"
	"noria/wait"
	"slices"
	"strconv"
	"strings"
	"testing"
)

// stage is a poller, neither the first actor nor at the first ring, another actor that waits for news of that, and those ahead of it:
// their cells are the first ones.
type stage struct {
	*room.Room
	p     *poller.Poller
	other int
	// The last index that it is done with, its start and its next one, and how many calls it has.
	done, start, next int64
	calls             int
}

// set is a stage of so many slots, in which this is the first index.
func set(t *testing.T, slots int, k room.Kind, w wait.Way, first int64, ahead ...int64) *stage {
	t.Helper()
	s := &stage{Room: room.New(), done: first - 1, start: first, next: first}
	var after []int
	for _, v := range ahead {
		id, e := s.Arena().Alloc(v)
		if e != nil {
			t.Fatal(e)
		}
		after = append(after, id)
	}
	s.Ring(1, room.Single)
	s.Ring(slots, k)
	s.other, _, _ = s.Join()
	if first > 0 {
		// Only a ring of many goes on by what this cell has.
		s.Arena().Store(s.Cursor(1), first-1)
	}
	s.p = asker(t, s.Room, 1, w, after...)
	return s
}

// act does something beside the steps; false: it isn't known.
func (s *stage) act(what string, n int64) (ok bool, e error) {
	switch what {
	case "poll":
		e = s.p.Poll(int(n))
		s.calls++
	case "receive":
		e = s.p.Receive()
		s.calls++
	case "pub":
		e = publish(s.Room, 1, int(n))
	case "claim":
		_, e = claim(s.Room, 1, int(n))
	case "show":
		_, e = s.Show(1, n, n)
	case "ahead":
		e = s.Arena().Store(0, n)
	case "ahead1":
		e = s.Arena().Store(1, n)
	case "alert":
		e = s.Arena().Store(s.p.Alert(), n)
	case "tick":
		_, e = s.Tick(n)
	case "signal":
		_, e = s.Signal(1)
	case "wake":
		_, e = s.Wake(s.p.Who())
	case "halt":
		e = s.Halt(s.p.Who())
	case "other":
		if _, e = s.Park(s.other, 0); e == nil {
			e = s.Enlist(1, s.other)
		}
	default:
		return false, nil
	}
	return true, e
}

// ask asks something, and says what is wrong; false: it isn't known.
func (s *stage) ask(what string) (ok bool, why string) {
	switch what {
	case "waits", "polls":
		if s.p.Waits() != (what == "waits") {
			why = "it is not so that it " + what
		}
	case "leave":
		if n, e := s.p.Leave(); e != nil || n != (api.Note{Who: s.p.Who()}) {
			why = "the note of Leave"
		}
	case "gone":
		want := api.Note{Who: s.p.Who(), Ring: 1, Deed: api.Left, Seq: s.done}
		if n, e := s.p.Leave(); e != nil || n != want || !s.p.Left() || s.holds() || len(s.Waiting(1)) > 0 {
			why = "it doesn't leave at once"
		}
	default:
		return false, ""
	}
	return true, why
}

// holds says whether the poller holds the ring back.
func (s *stage) holds() bool { return slices.Contains(s.Gate(1).Cells(), s.p.Cell()) }

// word is what a step is: a (silent, with one load), - (silent, with none), e (so, and it is told of news then), z (so, and it is parked,
// with a timer for a number), s (so, and all are told of news), h (Handled), m (Moved, with the store in its cell), R (Returned, and all
// are told of news), E (Returned, with an error, and one load), L (Left), x (Stopped). Behind a stands how often.
type word struct {
	kind   byte
	lo, hi int64
}

// note is what is seen of it.
func (w word) note(who int) api.Note {
	n := api.Note{Who: who, Ring: 1, Seq: w.hi}
	switch w.kind {
	case 'h':
		n.Deed, n.Lo, n.X = api.Handled, w.hi, event(w.hi)
	case 'm':
		n.Deed, n.Lo = api.Moved, w.lo
	case 'R':
		n.Deed, n.Lo = api.Returned, w.lo
	case 'E':
		n.Deed, n.Seq, n.Code = api.Returned, 0, api.Errno(w.hi)
	case 'L':
		n.Deed = api.Left
	case 'x':
		n.Deed = api.Stopped
	default:
		n.Seq = 0
	}
	return n
}

// state is what the poller does behind it.
func (w word) state() actor.State {
	switch w.kind {
	case 'z':
		return actor.Parked
	case 'x':
		return actor.Halted
	}
	return actor.Ready
}

// cells is how many steps of cells it does.
func (w word) cells() int {
	if strings.IndexByte("amE", w.kind) >= 0 {
		return 1
	}
	return 0
}

// expect lets it be as it should be behind a word.
func (s *stage) expect(w word) {
	switch w.kind {
	case 'm':
		s.done = w.hi
	case 'R':
		s.next = w.hi + 1
		s.calls--
	case 'E':
		s.calls--
	}
}

// step does a step, and says what it isn't that a word tells.
func (s *stage) step(w word) string {
	was, parked, list, left := s.Arena().Steps(), s.Actors().State(s.other), s.Waiting(1), s.p.Left()
	n, e := s.p.Step()
	s.expect(w)
	switch {
	case e != nil:
		return e.Error()
	case n != w.note(s.p.Who()):
		return "the note"
	case s.Actors().State(s.p.Who()) != w.state():
		return "the state"
	case s.Arena().Steps()-was != w.cells():
		return "the steps of cells"
	case number(s.Room, s.p.Cell()) != s.done || s.p.Next() != s.next || s.p.Start() != s.start:
		return "its cell, its next index, or its start"
	case s.p.Pending() != s.calls:
		return "the calls"
	case s.p.Left() != (left || w.kind == 'L') || s.holds() == s.p.Left():
		return "who holds back"
	case w.kind == 'z' && !s.timer(w.hi):
		return "the timer"
	}
	return s.news(w, parked, list)
}

// news says what is wrong with who is told of news.
func (s *stage) news(w word, parked actor.State, list []int) string {
	switch w.kind {
	case 'e':
		if !slices.Contains(list, s.p.Who()) {
			list = append(list, s.p.Who())
		}
		if !slices.Equal(s.Waiting(1), list) {
			return "it isn't told of news"
		}
	case 's', 'R':
		if len(s.Waiting(1)) > 0 || s.Actors().State(s.other) == actor.Parked {
			return "somebody isn't told of news"
		}
	default:
		if s.Actors().State(s.other) != parked || !slices.Equal(list, s.Waiting(1)) {
			return "somebody is told of news"
		}
	}
	return ""
}

// timer says whether there is a timer for a time, and no other one; of 0 none.
func (s *stage) timer(at int64) bool {
	next, ok := s.Clock().Next()
	return next == at && ok == (at > 0) && (s.Clock().Waiting() == 1) == ok
}

// span are the two numbers of a text, or one twice.
func span(s string) (int64, int64) {
	i := strings.IndexByte(s, '~')
	hi, _ := strconv.ParseInt(s[i+1:], 10, 64)
	if i < 0 {
		return hi, hi
	}
	lo, _ := strconv.ParseInt(s[:i], 10, 64)
	return lo, hi
}

// play does what the words say.
func (s *stage) play(t *testing.T, text string) {
	t.Helper()
	for i, x := range strings.Fields(text) {
		what, num, _ := strings.Cut(x, ":")
		n, _ := strconv.ParseInt(num, 10, 64)
		ok, e := s.act(what, n)
		if e != nil {
			t.Fatal(text, i, x, e)
		}
		if ok {
			continue
		}
		if ok, why := s.ask(what); ok {
			if why != "" {
				t.Fatal(text, i, x, why)
			}
			continue
		}
		lo, hi := span(x[1:])
		times := int64(1)
		if x[0] == 'a' {
			times = max(1, hi)
		}
		for range times {
			if why := s.step(word{x[0], lo, hi}); why != "" {
				t.Fatal(text, i, x, why)
			}
		}
	}
}

// The ways of waiting of the scripts.
var (
	yield = wait.Way{Kind: wait.Yield, Tries: 2}
	never = wait.Way{Kind: wait.Yield}
	block = wait.Way{Kind: wait.Block}
	timed = wait.Way{Kind: wait.Timed, Time: 3}
)

// all are all ways.
var all = []wait.Way{spin, yield, never, block, timed}

// play plays texts, each on a stage of its own, of eight slots.
func play(t *testing.T, k room.Kind, w wait.Way, ahead []int64, texts ...string) {
	t.Helper()
	for _, text := range texts {
		set(t, 8, k, w, 0, ahead...).play(t, text)
	}
}

// P18.2: what a poller does that has no call.
func TestIdle(t *testing.T) {
	for _, k := range kinds {
		for _, w := range all {
			play(t, k, w, nil,
				"polls a z wake a z wake a z polls",
				"wake a - a z",
				"a wake - a z",
				// It isn't told of news, and what is there is nothing to it.
				"other a z pub:2 signal",
				"pub:2 a z",
				// Alerted, it sleeps on; told to drain, it stops, and holds the ring back still.
				"alert:1 a z alert:0 wake a z",
				"a z alert:7 wake a z alert:-1 wake a z alert:9223372036854775807 wake a z",
				"alert:2 a x-1 gone",
				"a alert:2 z wake a x-1",
				"a z alert:2 wake a x-1 other gone",
				"pub:2 alert:2 a x-1",
				// A call that comes between the reading and the sleep.
				"a poll:1 - a2 E11 a z",
				"a receive waits - a2",
				"a z poll:1 polls a2 E11 a z",
				// Up to the greatest time.
				"tick:1099511627776 a z wake a z",
			)
		}
	}
}

// P18.2, P18.4: what a Poll does of a ring of one: it handles what is there, and waits for nothing.
func TestPoll(t *testing.T) {
	for _, w := range all {
		play(t, room.Single, w, nil,
			"poll:1 a2 E11 a - a z",
			"poll:64 poll:1 a2 E11 a2 E11 a - a z",
			"a z poll:1 pub:1 a2 h0 m0 R0 a z",
			"a z poll:2 pub:1 a2 h0 m0 R0 a z",
			"a z poll:2 pub:3 a2 h0 h1 m0~1 R0~1 poll:2 a2 h2 m2 R2 poll:1 a2 E11 a - a z",
			"poll:1 poll:2 poll:3 poll:4 pub:7 a2 h0 m0 R0 a2 h1 h2 m1~2 R1~2 a2 h3 h4 h5 m3~5 R3~5 a2 h6 m6 R6",
			"poll:64 pub:8 a2 h0 h1 h2 h3 h4 h5 h6 h7 m0~7 R0~7 pub:8 poll:7 a2 h8 h9 h10 h11 h12 h13 h14 m8~14 R8~14",
			"poll:3 pub:1 a2 h0 other m0 other R0 other a - a z",
			// What is published counts up to the reading of the cursor, and behind that it is Gating.
			"poll:3 a pub:1 a h0 m0 R0 poll:3 a2 pub:1 E12 poll:3 a2 h1 m1 R1",
			"poll:3 pub:1 a2 pub:1 h0 pub:1 m0 pub:1 R0 poll:1 a2 h1 m1 R1",
			// A call more between.
			"poll:1 a poll:2 a E11 pub:1 a2 h0 m0 R0 a - a z",
			// Time is nothing to it.
			"a z poll:1 a tick:9 a tick:9 E11 tick:1099511627758 poll:2 a2 E11",
		)
	}
}

// P18.2, P18.4: what a Poll does of a ring of many: it goes on up to the first index that isn't shown.
func TestPollOfMany(t *testing.T) {
	for _, w := range all {
		play(t, room.Multi, w, nil,
			"poll:1 a2 E11 a - a z",
			"claim:1 poll:3 a3 E12 a - a z",
			"claim:1 poll:3 a3 show:0 E12 poll:3 a3 h0 m0 R0 poll:1 a2 E11",
			"claim:2 show:1 poll:1 a3 E12 show:0 poll:1 a4 h0 m0 R0 poll:2 a3 h1 m1 R1",
			"claim:3 show:0 show:2 poll:8 a4 h0 m0 R0 poll:8 a3 E12 show:1 poll:8 a4 h1 h2 m1~2 R1~2",
			"pub:8 poll:3 a10 h0 h1 h2 m0~2 R0~2 poll:3 a7 h3 h4 h5 m3~5 R3~5 pub:6 poll:3 a10 h6 h7 h8 m6~8 R6~8",
			"poll:1 pub:8 a10 h0 m0 R0 poll:1 a9 h1 m1 R1",
			// What is claimed behind the reading of the cursor doesn't count, what is shown does.
			"poll:2 pub:1 a2 pub:1 a h0 m0 R0 poll:1 a3 h1 m1 R1",
			"poll:2 claim:2 a2 show:0 a show:1 a h0 h1 m0~1 R0~1",
			"poll:2 a2 claim:1 E12", "poll:2 a2 pub:1 E12", "poll:2 a claim:1 a2 E12",
		)
		// Up to the greatest index.
		set(t, 8, room.Multi, w, 1<<62-2).play(t, "pub:3 poll:3 a5 h4611686018427387902 h4611686018427387903 h4611686018427387904 m4611686018427387902~4611686018427387904 R4611686018427387902~4611686018427387904 poll:1 a2 E11")
		set(t, 8, room.Multi, w, 1<<62-2).play(t, "poll:64 claim:3 a3 E12 show:4611686018427387902 receive a4 h4611686018427387902 m4611686018427387902 R4611686018427387902")
	}
}

// P18.2: what a Receive does that finds an event: it handles one, however many are there.
func TestReceive(t *testing.T) {
	for _, w := range all {
		play(t, room.Single, w, nil,
			"receive pub:1 a2 h0 m0 R0 a - a z",
			"a z receive pub:3 a2 h0 m0 R0 receive waits a2 h1 m1 R1 a - a z",
			"receive receive poll:4 waits pub:4 a2 h0 m0 R0 waits a2 h1 m1 R1 polls a2 h2 h3 m2~3 R2~3 polls",
			"receive a pub:1 a h0 m0 R0",
			"a z receive pub:1 a2 other h0 m0 other R0 a z",
		)
		play(t, room.Multi, w, nil,
			"receive pub:3 a5 h0 m0 R0 receive a4 h1 m1 R1 a - a z",
			"receive claim:3 show:0 a4 h0 m0 R0",
		)
	}
}

// P18.2, P18.3: who is behind others reads what they are done with, one by one, in order, and goes no further.
func TestBehind(t *testing.T) {
	for _, k := range kinds {
		for _, w := range all {
			play(t, k, w, []int64{-1},
				"poll:2 a2 E11 pub:8 poll:2 a2 E12 ahead:0 poll:2 a2 h0 m0 R0 ahead:7 poll:2 a2 h1 h2 m1~2 R1~2",
				"pub:8 poll:2 a ahead:1 a h0 h1 m0~1 R0~1",
				"pub:8 ahead:0 receive a2 ahead:5 h0 m0 R0 receive a2 h1 m1 R1",
				// Between the look and the cursor's reading.
				"poll:2 a2 pub:8 E12", "pub:8 poll:2 a2 ahead:0 E12",
				// Only what is claimed counts for the error, whatever those ahead have.
				"ahead:-7 poll:1 a2 E11",
			)
			play(t, k, w, []int64{-1, 2},
				"pub:8 ahead:0 poll:4 a3 h0 m0 R0 ahead:6 poll:4 a3 h1 h2 m1~2 R1~2 ahead1:7 poll:4 a3 h3 h4 h5 h6 m3~6 R3~6 poll:4 a3 E12",
				"pub:8 ahead:3 ahead1:0 poll:4 a3 h0 m0 R0",
				// Each counts as it is when it is read.
				"pub:8 poll:4 a ahead:1 a ahead:0 ahead1:7 a h0 h1 m0~1 R0~1",
				"pub:8 ahead:1 poll:4 a2 ahead:7 ahead1:3 a h0 h1 m0~1 R0~1",
			)
		}
	}
	play(t, room.Multi, spin, []int64{-1}, "claim:1 poll:1 a2 E12 show:0 poll:1 a2 E12 ahead:0 poll:1 a2 h0 m0 R0")
}

// P18.2, P18.5: what a Receive does that finds nothing, in each way of waiting.
func TestWaits(t *testing.T) {
	// Spin: it looks again and again.
	play(t, room.Single, spin, nil, "receive a2 a2 a2 a2 a2 a2 pub:1 a2 h0 m0 R0 receive a2 a2 a2")
	// Yield: more often than its Tries, and it rests, ahead of each look then.
	play(t, room.Single, yield, nil,
		"receive a2 a2 a2 - a2 - a2 - pub:3 a2 h0 m0 R0 receive a2 h1 m1 R1",
		"receive a2 a2 a2 pub:1 - a2 h0 m0 R0",
		// The patience of each call is its own.
		"receive a2 a2 a2 - a2 - pub:1 a2 h0 m0 R0 receive a2 a2 a2 - a2 -",
		"receive a2 pub:1 a2 h0 m0 R0 receive a2 a2 a2 - a2",
		"receive receive a2 a2 a2 - pub:1 a2 h0 m0 R0 poll:1 waits a2 a2 a2 - pub:1 a2 h1 m1 R1 polls a2 E11 a - a z",
	)
	play(t, room.Single, never, nil, "receive a2 - a2 - pub:1 a2 h0 m0 R0 receive a2 - a2 -")
	// Block: it is told of news, looks once more, and is parked.
	play(t, room.Single, block, nil,
		"a z receive a2 e a2 z signal a2 e a2 z wake a2 e a2 z pub:1 signal a2 h0 m0 R0 a z",
		"a z receive other a2 e a2 z signal other a2 e a2 z",
		// Its own signal wakes it, too, if it is in the list.
		"a z receive a2 e pub:1 a2 h0 m0 R0 a - a z",
		"a z receive a2 e pub:1 a2 h0 m0 R0 receive a2 e a2 - a2 e a2 z",
		// Woken between, it isn't parked; a call wakes it, too.
		"a z receive a2 e a2 signal - a2 e a2 z",
		"a z receive a2 e signal a2 - a2 e a2 z",
		"a z receive a2 e a2 pub:1 signal - a2 h0 m0 R0",
		"a z receive a2 e a2 poll:1 - a2 e a2 z pub:2 signal waits a2 h0 m0 R0 polls a2 h1 m1 R1 a z",
		"a z receive a2 e a2 z receive waits a2 e a2 z pub:1 signal a2 h0 m0 R0 a2 e a2 z",
		"receive a2 e a2 - a2 e a2 z",
		// A Poll behind it waits till it has ended.
		"a z receive a2 e a2 z poll:9 a2 e a2 z poll:9 waits pub:3 a2 h0 m0 R0 polls a2 h1 h2 m1~2 R1~2 a2 E11 a - a z",
		// Who is in the list already is in it once.
		"a z receive a2 e a2 wake - other a2 e a2 z other signal a2 e a2 z",
	)
	play(t, room.Multi, spin, nil, "receive a2 a2 claim:2 a3 a3 show:1 a3 show:0 a4 h0 m0 R0 receive a3 h1 m1 R1 receive a2 a2")
	play(t, room.Multi, yield, nil, "receive a2 claim:2 a3 a3 - show:1 a3 - show:0 a4 h0 m0 R0")
	play(t, room.Multi, block, nil,
		"a z receive a2 e a2 z claim:2 signal a3 e a3 z show:1 signal a3 e a3 z show:0 signal a4 h0 m0 R0",
		"a z receive a2 e a claim:1 a2 z show:0 signal a3 h0 m0 R0",
	)
	for _, k := range kinds {
		play(t, k, block, []int64{-1, 4}, "a z receive pub:8 a3 e a3 z wake a3 e a3 z ahead:1 signal a3 h0 m0 R0 receive a3 h1 m1 R1 receive a3 e a3 - a3 e a3 z")
		play(t, k, yield, []int64{-1}, "receive pub:8 a2 a2 a2 - a2 - ahead:0 a2 h0 m0 R0 receive a2 a2 a2 -")
	}
}

// P18.2, P18.6: who waits with a deadline does as one that Blocks till then; it is reckoned from the call's beginning on.
func TestTimed(t *testing.T) {
	play(t, room.Single, timed, nil,
		"a z receive a2 e a2 z3 tick:2 signal a2 e a2 z3 tick:1 a E14 a z",
		"a z receive receive a2 e a2 - a2 e a2 z3 tick:3 a E14 a2 e a2 z6 tick:3 a E14 a z",
		"a z tick:5 receive tick:1 a2 e a2 z9 tick:2 wake a2 e a2 z9 tick:1 a E14 a z",
		"receive a tick:3 E14", "receive a2 tick:3 e a E14", "receive a2 e a tick:3 E14",
		"receive tick:3 a2 e a tick:2 a",
		// The time comes to its deadline between: it isn't parked.
		"a z receive a2 e a2 tick:3 - a E14 a z",
		"a z receive a2 e a2 tick:2 z3",
		"a z receive a2 e a2 wake - a2 e a2 z3",
		// At its deadline it gives up only if nothing is there.
		"a z receive a2 e a2 z3 pub:1 tick:3 a2 h0 m0 R0 a - a z",
		"receive a tick:9 pub:1 a h0 tick:9 m0 tick:9 R0",
		// Each call has its own.
		"receive pub:1 tick:2 a2 h0 m0 R0 tick:2 receive a2 e a2 - a2 e a2 z7",
		"receive poll:1 a tick:3 E14 polls a2 E11 receive a2 e a2 - a2 e a2 z6",
		// Up to the greatest time.
		"a z tick:1099511627774 receive a2 e a2 z1099511627776 tick:2 a E14 receive a E14",
		"a z tick:1099511627773 receive a2 e a2 z1099511627776 signal pub:1 a2 h0 m0 R0 tick:3 receive a E14",
	)
	play(t, room.Multi, timed, nil, "a z receive claim:2 show:1 a3 e a3 z3 tick:3 a2 E14 show:0 receive a4 h0 m0 R0 a - a z")
	play(t, room.Multi, timed, []int64{0}, "pub:2 receive a2 h0 m0 R0 receive a2 e a2 - a2 e a2 z3 tick:3 a E14 receive a2 e ahead:1 a2 h1 m1 R1")
	for _, w := range []wait.Way{spin, yield, never} {
		play(t, room.Single, w, nil, "receive tick:9 a2", "receive a tick:1099511627776 a")
	}
	// Others never give up, whatever the time.
	play(t, room.Single, block, nil, "a z tick:1099511627776 receive a2 e a2 z wake a2 e a2 z")
}

// P18.2: a call of one that is alerted ends at its next look; one that is told to drain does its calls, and stops then.
func TestTold(t *testing.T) {
	for _, k := range kinds {
		for _, w := range all {
			play(t, k, w, nil,
				"poll:1 alert:1 E13 a - a z",
				"receive poll:2 alert:1 E13 E13 a - a z alert:0 poll:1 a2 E11",
				"pub:1 poll:1 receive alert:1 E13 E13 a - a z",
				"a receive alert:1 - E13 a z",
				"poll:1 a alert:1 a E11 poll:1 E13",
				"poll:1 a2 alert:1 E11",
				"poll:1 alert:2 a2 E11 a x-1",
				"poll:1 poll:2 alert:2 a2 E11 a2 E11 a x-1 gone",
				// One that is told by another number goes on.
				"poll:1 alert:7 a2 E11 alert:-1 poll:1 a2 E11 a - a z",
			)
		}
	}
	for _, w := range all {
		play(t, room.Single, w, nil,
			"pub:3 poll:2 a alert:1 a h0 h1 m0~1 R0~1 receive E13",
			"pub:3 poll:2 a2 h0 alert:1 h1 m0~1 R0~1 a - a z",
			"pub:3 poll:2 receive a2 h0 h1 alert:1 m0~1 R0~1 E13 a - a z",
			"pub:3 poll:2 receive a2 h0 h1 alert:2 m0~1 R0~1 a2 h2 m2 R2 a x2 gone",
			"pub:3 alert:2 receive receive poll:2 a2 h0 m0 R0 a2 h1 m1 R1 a2 h2 m2 R2 a x2",
		)
	}
	// A Receive waits on though it is told to drain.
	play(t, room.Single, spin, nil, "receive a2 a alert:1 a E13 a - a z", "receive alert:2 a2 a2 a2 pub:1 a2 h0 m0 R0 a x0")
	play(t, room.Single, never, nil, "receive a2 alert:1 - E13", "receive a alert:1 a - E13", "receive alert:2 a2 - a2 - pub:1 a2 h0 m0 R0 a x0")
	play(t, room.Single, block, nil,
		"a z receive a2 alert:1 e E13 a z",
		"a z receive a2 e a alert:1 wake a - E13 a z",
		"a z receive a2 e a2 alert:1 wake - E13 a z",
		"a z receive a2 e a2 z alert:1 wake E13 a z",
		"a z receive poll:1 a2 e a2 - a2 e a2 z alert:1 wake E13 E13 a z",
		"a z receive a2 e a2 z alert:2 wake a2 e a2 z pub:1 signal a2 h0 m0 R0 a x0",
	)
	play(t, room.Single, timed, nil,
		"a z receive a2 e a2 z3 alert:1 tick:3 E13 a z",
		"a z receive a2 e a2 z3 alert:2 tick:3 a E14 a x-1",
	)
	play(t, room.Multi, spin, nil, "claim:2 show:0 poll:2 a2 alert:1 a2 h0 m0 R0 receive E13", "claim:2 show:1 alert:2 poll:1 a3 E12 a x-1")
	play(t, room.Multi, spin, []int64{-1, -1}, "pub:2 poll:1 a alert:1 a2 E12 poll:1 E13", "pub:2 alert:2 ahead:0 ahead1:0 poll:2 a3 h0 m0 R0 a x0")
}

// P18.1, P18.2: who should leave does so when it has no call.
func TestLeaves(t *testing.T) {
	for _, k := range kinds {
		for _, w := range all {
			play(t, k, w, nil,
				"leave a L-1 s x-1",
				"leave leave a L-1 s x-1",
				"alert:1 leave a other L-1 other s x-1",
				"a z leave a L-1 s x-1",
				"a leave - a L-1 s x-1",
				"a z other leave a L-1 s x-1",
				// Its calls end first, by the alert, or otherwise, if that is another one then.
				"poll:1 receive leave E13 E13 a L-1 s x-1",
				"poll:1 leave alert:0 a2 E11 a L-1 s x-1",
				"poll:1 a leave a E11 a L-1 s x-1",
				"poll:1 leave poll:2 E13 E13 a L-1 s x-1",
				// It leaves whatever its alert has then: it should leave, and nothing else counts.
				"leave alert:2 a L-1 s x-1", "leave alert:0 a L-1 s x-1", "alert:2 leave alert:2 a L-1 s x-1",
				// Told to leave when it stops, it leaves only when it is told so again.
				"alert:2 a leave x-1 gone",
				"alert:2 a x-1 gone", "alert:2 a x-1 other gone",
				"leave a leave L-1 s x-1",
				// Others halted it.
				"halt gone", "a halt gone", "leave a halt gone", "receive a halt gone", "poll:1 a halt other gone",
			)
		}
	}
	play(t, room.Single, block, nil,
		"a z receive a2 e a2 z leave E13 a L-1 s x-1",
		"a z receive a2 e a2 z other leave E13 a L-1 s x-1",
		"a z receive a2 e leave E13 a L-1 s x-1",
		"a z receive a2 e a2 leave - E13 a L-1 s x-1",
	)
	play(t, room.Single, timed, nil, "a z receive a2 e a2 z3 leave E13 a L-1 s x-1", "a z receive a2 e a2 z3 halt gone")
	play(t, room.Single, spin, nil,
		"pub:3 poll:2 a2 leave h0 h1 m0~1 R0~1 a L1 s x1",
		"pub:3 poll:2 receive a2 h0 h1 leave m0~1 R0~1 E13 a L1 s x1",
		"pub:3 poll:2 a2 h0 h1 m0~1 leave R0~1 a L1 s x1",
		"pub:3 poll:2 a2 h0 halt gone", "pub:3 poll:2 a2 h0 h1 halt gone", "pub:3 poll:2 a2 h0 h1 m0~1 halt other gone", "pub:3 poll:2 a2 h0 h1 m0~1 R0~1 halt gone",
	)
}

// The examples of the chapter.
func TestExamples(t *testing.T) {
	play(t, room.Multi, spin, nil, "claim:1 poll:3 a a a E12")
	play(t, room.Single, spin, nil, "pub:3 poll:2 receive poll:1 a2 h0 h1 m0~1 R0~1 a2 h2 m2 R2 a2 E11")
}
