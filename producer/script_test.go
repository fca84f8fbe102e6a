package producer_test

import (
	"noria/actor"
	"noria/api"
	"noria/producer"
	"noria/room"
	"noria/wait"
	"slices"
	"strconv"
	"strings"
	"testing"
)

// stage is a producer, neither the first actor nor at the first ring, another actor that waits for news of that, and those who hold
// it back: their cells are the first ones.
type stage struct {
	*room.Room
	p     *producer.Producer
	other int
	// The key of the event that is sent next, and those that are to be put.
	key  int64
	next []api.Event
}

// set is a stage of so many slots.
func set(t *testing.T, slots int, k room.Kind, w wait.Way, held ...int64) *stage {
	t.Helper()
	s := &stage{Room: room.New(), key: 1}
	for _, v := range held {
		s.Arena().Alloc(v)
	}
	s.Ring(1, room.Single)
	s.Ring(slots, k)
	for id := range held {
		if e := s.Gate(1).Add(id); e != nil {
			t.Fatal(e)
		}
	}
	s.other, _, _ = s.Join()
	s.p = sender(t, s.Room, 1, w)
	return s
}

// send lets the producer have a call more.
func (s *stage) send(call func(...api.Event) error, n int64) error {
	l := events(int(n), s.key)
	s.key += n
	s.next = append(s.next, l...)
	return call(l...)
}

// act does something beside the steps; false: it isn't known.
func (s *stage) act(what string, n int64) (ok bool, e error) {
	switch what {
	case "send":
		e = s.send(s.p.Send, n)
	case "offer":
		e = s.send(s.p.Offer, n)
	case "held":
		e = s.Arena().Store(0, n)
	case "cursor":
		e = s.Arena().Store(s.Cursor(1), n)
	case "claim":
		e = s.rival(int(n))
	case "alert":
		e = s.Arena().Store(s.p.Alert(), n)
	case "drop":
		e = s.Gate(1).Drop(int(n))
	case "hold":
		e = s.Gate(1).Add(int(n))
	case "tick":
		_, e = s.Tick(n)
	case "signal":
		_, e = s.Signal(1)
	case "wake":
		_, e = s.Wake(s.p.Who())
	case "skip":
		// The events of a call that ended by an error.
		s.next = s.next[n:]
	case "other":
		_, e = s.Park(s.other, 0)
		if e == nil {
			e = s.Enlist(1, s.other)
		}
	default:
		return false, nil
	}
	return true, e
}

// rival claims so many indexes for somebody else.
func (s *stage) rival(n int) error {
	c, e := s.Claim(1, n)
	for e == nil && !c.Done() {
		c, e = c.Step()
	}
	return e
}

// span are the two numbers of a text.
func span(s string) (int64, int64) {
	lo, hi, _ := strings.Cut(s, "-")
	l, _ := strconv.ParseInt(lo, 10, 64)
	h, _ := strconv.ParseInt(hi, 10, 64)
	return l, h
}

// word is what a step is: a (silent, with one step of a cell), - (silent, with none), e (so, and it is told of news then), z (so, and it
// is parked, with a timer for a number), p (so, and an index has its event), S (Shown), R (Returned), E (Returned, with an error), X
// (Stopped).
type word struct {
	kind   byte
	lo, hi int64
}

// note is what is seen of it.
func (w word) note(who int) api.Note {
	n := api.Note{Who: who, Ring: 1}
	switch w.kind {
	case 'S':
		n.Deed, n.Lo, n.Seq = api.Shown, w.lo, w.hi
	case 'R':
		n.Deed, n.Lo, n.Seq = api.Returned, w.lo, w.hi
	case 'E':
		n.Deed, n.Code = api.Returned, api.Errno(w.lo)
	case 'X':
		n.Deed = api.Stopped
	}
	return n
}

// state is what the producer does behind it.
func (w word) state() actor.State {
	switch w.kind {
	case 'z':
		return actor.Parked
	case 'X':
		return actor.Halted
	}
	return actor.Ready
}

// cells says whether it may do so many steps of cells; how many it takes to show is the sequencer's.
func (w word) cells(n int) bool {
	switch w.kind {
	case 'a', 'X':
		return n == 1
	case 'S', 'E':
		return true
	}
	return n == 0
}

// step does a step, and says what it isn't that a word tells.
func (s *stage) step(w word) string {
	was, parked, list := s.Arena().Steps(), s.Actors().State(s.other), s.Waiting(1)
	n, e := s.p.Step()
	switch {
	case e != nil:
		return e.Error()
	case n != w.note(s.p.Who()):
		return "the note"
	case s.Actors().State(s.p.Who()) != w.state():
		return "the state"
	case !w.cells(s.Arena().Steps() - was):
		return "the steps of cells"
	case w.kind == 'e' && !slices.Contains(s.Waiting(1), s.p.Who()):
		return "it isn't told of news"
	case w.kind == 'R' && (len(s.Waiting(1)) > 0 || s.Actors().State(s.other) == actor.Parked):
		return "somebody isn't told of news"
	case w.kind != 'R' && s.Actors().State(s.other) != parked:
		return "somebody is told of news"
	case w.kind != 'R' && w.kind != 'e' && !slices.Equal(list, s.Waiting(1)):
		return "the list"
	case w.kind == 'z' && !s.timer(w.lo):
		return "the timer"
	case w.kind == 'p' && !s.put(w.lo):
		return "what is put"
	}
	return ""
}

// timer says whether there is a timer for a time, and no other one; of 0 none.
func (s *stage) timer(at int64) bool {
	next, ok := s.Clock().Next()
	return next == at && ok == (at > 0) && (s.Clock().Waiting() == 1) == ok
}

// put says whether an index has the event that is next.
func (s *stage) put(seq int64) bool {
	x, e := s.Slots(1).Get(seq)
	ok := e == nil && x == s.next[0]
	s.next = s.next[1:]
	return ok
}

// play does what the words say.
func (s *stage) play(t *testing.T, text string) {
	t.Helper()
	for i, x := range strings.Fields(text) {
		what, num, _ := strings.Cut(x, ":")
		n, _ := strconv.ParseInt(num, 10, 64)
		ok, e := s.act(what, n)
		if e != nil {
			t.Fatal(text, i, x, e)
		}
		if ok {
			continue
		}
		lo, hi := span(x[1:])
		if why := s.step(word{x[0], lo, hi}); why != "" {
			t.Fatal(text, i, x, why)
		}
	}
}

// The ways of waiting of the scripts.
var (
	yield = wait.Way{Kind: wait.Yield, Tries: 2}
	never = wait.Way{Kind: wait.Yield}
	block = wait.Way{Kind: wait.Block}
	timed = wait.Way{Kind: wait.Timed, Time: 3}
)

// The words of two events that fill a ring of two, of one and of many; the producer is parked behind them, without a token.
const (
	filled     = "a z send:2 a p0 p1 S0-1 R0-1 a z "
	filledMany = "a z send:2 a a a a p0 p1 S0-0 S1-1 R0-1 a z "
)

// script is what happens on a stage of two slots.
type script struct {
	way  wait.Way
	text string
}

// played plays scripts, each on a stage of its own.
func played(t *testing.T, k room.Kind, held []int64, l ...script) {
	t.Helper()
	for _, s := range l {
		set(t, 2, k, s.way, held...).play(t, s.text)
	}
}

// P15.2: what a producer of a ring of one does, that nobody holds back.
func TestFree(t *testing.T) {
	for _, w := range []wait.Way{spin, yield, never, block, timed} {
		played(t, room.Single, nil,
			// Without a call.
			script{w, "a z wake a z wake a z"},
			script{w, "wake a - a z"},
			script{w, "alert:1 a z wake a z alert:0 wake a z"},
			script{w, "alert:7 a z alert:-1 wake a z alert:9223372036854775807 wake a z"},
			script{w, "alert:2 X"},
			script{w, "a alert:2 z wake X"},
			script{w, "a z alert:2 wake X"},
			// With calls: an Offer is as a Send.
			script{w, "send:1 a p0 S0-0 R0-0 a - a z"},
			script{w, "offer:1 a p0 S0-0 R0-0 a - a z"},
			script{w, "a z send:2 a p0 p1 S0-1 R0-1 a z"},
			script{w, "a z offer:2 send:1 a p0 p1 S0-1 R0-1 a a p2 S2-2 R2-2 a - a z"},
			script{w, "a z other send:1 a p0 S0-0 R0-0 a z"},
			// A call that comes between the reading and the sleep.
			script{w, "a send:1 - a p0 S0-0 R0-0 a z"},
			script{w, "a z send:1 a p0 S0-0 R0-0 a offer:1 - a p1 S1-1 R1-1 a z"},
			// What was seen last isn't enough: the cursor is read.
			script{w, "a z send:2 a p0 p1 S0-1 R0-1 send:2 a a p2 p3 S2-3 R2-3 send:1 a a p4 S4-4 R4-4"},
			// It is told to stop.
			script{w, "send:1 send:1 alert:1 E13 E13 a - a z"},
			script{w, "a send:1 alert:1 - E13 a z"},
			script{w, "send:1 alert:2 a p0 S0-0 R0-0 X"},
			script{w, "send:1 a alert:1 p0 S0-0 R0-0 a - a z"},
			script{w, "send:1 offer:1 a alert:1 p0 S0-0 R0-0 E13 a"},
			script{w, "send:1 send:1 a p0 alert:2 S0-0 R0-0 a p1 S1-1 R1-1 X"},
			script{w, "send:1 alert:1 E13 skip:1 alert:0 send:1 a p0 S0-0 R0-0"},
		)
	}
}

// P15.2: what a producer of a ring of many does, that nobody holds back.
func TestFreeOfMany(t *testing.T) {
	for _, w := range []wait.Way{spin, yield, never, block, timed} {
		played(t, room.Multi, nil,
			script{w, "a z wake a z alert:1 wake a z alert:2 wake X"},
			script{w, "send:1 a a a a p0 S0-0 R0-0 a - a z"},
			script{w, "a z offer:2 a a a a p0 p1 S0-0 S1-1 R0-1 a z"},
			script{w, "a z other send:2 a a a a p0 p1 S0-0 S1-1 R0-1 a z"},
			// What was seen last isn't enough: it is stored anew.
			script{w, "send:2 send:1 a a a a p0 p1 S0-0 S1-1 R0-1 a a a a a p2 S2-2 R2-2"},
			// It is told to stop.
			script{w, "send:1 send:1 alert:1 E13 E13 a - a z"},
			script{w, "send:1 a alert:1 a a a p0 S0-0 R0-0 a - a z"},
			script{w, "send:1 a a a a alert:2 p0 S0-0 R0-0 X"},
			// Another one claimed meanwhile: it begins anew with the cursor.
			script{w, "send:1 a a a claim:1 a a a a p1 S1-1 R1-1 a - a z"},
			script{w, "send:1 a claim:1 a a a p1 S1-1 R1-1 a - a z"},
			// An error of the claim ends the call.
			script{w, "send:1 send:1 cursor:4611686018427387904 a E15 a E15 a - a z"},
			script{w, "offer:2 cursor:4611686018427387903 a E15 skip:2 offer:1 a a a a a p4611686018427387904 S4611686018427387904-4611686018427387904 R4611686018427387904-4611686018427387904 a - a z"},
		)
	}
}

// P15.2, P15.8: what a producer of a ring of one does that is full, in each way of waiting.
func TestHeld(t *testing.T) {
	played(t, room.Single, []int64{-1},
		// An Offer doesn't wait.
		script{spin, "send:2 offer:1 a p0 p1 S0-1 R0-1 a a E10"},
		script{timed, filled + "offer:1 a a E10 offer:1 tick:9 a a E10 a - a z"},
		script{block, filled + "held:0 offer:2 a a E10 skip:2 offer:1 a p2 S2-2 R2-2"},
		// Spin: it looks again and again.
		script{spin, filled + "send:1 a a a a a a a a a a a a held:0 a a a p2 S2-2 R2-2 a z"},
		script{spin, filled + "send:2 a a a a held:0 a a a a a a held:1 a a p2 p3 S2-3 R2-3 a z"},
		// Yield: more often than its Tries, and it rests, ahead of each look then.
		script{yield, filled + "send:1 a a a a a a a a a - a a a - a a a - held:0 a a a p2 S2-2 R2-2"},
		script{yield, filled + "send:1 a a a a a a a a held:0 a p2 S2-2 R2-2"},
		script{yield, filled + "send:1 a a a a a a a a a held:0 - a a a p2 S2-2 R2-2"},
		script{never, filled + "send:1 a a a - a a a - a a a - held:1 a a a p2 S2-2 R2-2 send:1 a p3 S3-3 R3-3"},
		// The patience of each call is its own.
		script{yield, filled + "send:1 a a a a a a a a a - held:0 a a a p2 S2-2 R2-2 send:1 a a a a a a a a a - a"},
		// Block: it is told of news, looks once more, and is parked.
		script{block, filled + "send:1 a a a e a a a z held:0 signal a a a p2 S2-2 R2-2 a z"},
		script{block, filled + "send:1 a a a e a a a z signal a a a e a a a z wake a a a e a a a z held:1 signal a a a p2 S2-2 R2-2 send:1 a p3 S3-3 R3-3"},
		// Woken between, it isn't parked.
		script{block, filled + "send:1 a a a e a a a signal - a a a e a a a z"},
		script{block, filled + "send:1 a a a e signal a a a - a a a e a a a z"},
		script{block, filled + "send:1 send:1 a a a e a a a - a a a e a a a z held:1 signal a a a p2 S2-2 R2-2 a p3 S3-3 R3-3"},
		// One more call wakes it, and it looks again for the first one.
		script{block, filled + "send:2 a a a e a a a z offer:1 a a a e a a a z held:1 signal a a a p2 p3 S2-3 R2-3 a a E10"},
	)
}

// P15.2, P15.8: who waits with a deadline does as one that Blocks till then; it is reckoned from the call's beginning on.
func TestTimed(t *testing.T) {
	played(t, room.Single, []int64{-1},
		script{timed, filled + "tick:5 send:1 a a a e a a a z8 tick:2 held:0 signal a a a p2 S2-2 R2-2 a z"},
		script{timed, filled + "tick:5 send:1 tick:1 a a a e a a a z9 tick:2 wake a a a e a a a z9 tick:1 a a E14 a z"},
		script{timed, filled + "send:1 a tick:3 a E14 a z"},
		script{timed, filled + "send:1 a a tick:2 a e tick:1 a a E14 a z"},
		script{timed, filled + "send:1 a a a tick:3 e a a E14"},
		script{timed, filled + "send:1 a a a e a a a tick:3 - a a E14"},
		script{timed, filled + "send:1 a a a e a a a tick:2 z3 tick:1 a a E14 a z skip:1 send:1 a a a e a a a z6"},
		script{timed, filled + "send:1 send:1 a a a e a a a - a a a e tick:9 a a E14 a a a e a a a z12"},
		// At its deadline it gives up only if there is no room.
		script{timed, filled + "send:1 a a a e a a a z3 tick:3 held:0 a a a p2 S2-2 R2-2"},
		script{timed, filled + "tick:1099511627769 send:1 a a a e a a a z1099511627772 tick:3 a a E14 a z skip:1 tick:2 send:1 a a a e a a a z1099511627776 tick:2 a a E14 a z"},
	)
}

// P15.2, P15.6: who is told to stop looks no more; a claim goes on till it is done.
func TestAlerted(t *testing.T) {
	played(t, room.Single, []int64{-1},
		script{spin, filled + "send:1 a a a alert:1 E13 a z"},
		script{spin, filled + "send:1 a alert:1 a a E13 a z"},
		script{spin, filled + "send:1 a a alert:1 held:0 a p2 S2-2 R2-2 a z"},
		script{spin, filled + "offer:1 a alert:1 a E10 a z"},
		script{spin, filled + "send:1 a a a alert:2 a a a a a a held:0 a a a p2 S2-2 R2-2 X"},
		script{never, filled + "send:1 a a a alert:1 - E13 a z"},
		script{block, filled + "send:1 a a a alert:1 e E13 a z"},
		script{block, filled + "send:1 a a a e a a a alert:1 wake - E13 a z"},
		script{block, filled + "send:1 a a a e a a a z alert:1 wake E13 a z"},
		script{block, filled + "send:1 send:1 a a a e a a a - a a a e a a a z alert:1 wake E13 E13 a z"},
		script{block, filled + "send:1 a a a e a a a z alert:2 wake a a a e a a a z held:0 signal a a a p2 S2-2 R2-2 X"},
		script{timed, filled + "send:1 a a a e a a a z3 alert:1 tick:3 E13 a z"},
	)
}

// P15.2: what a producer of a ring of many does that is full.
func TestHeldOfMany(t *testing.T) {
	played(t, room.Multi, []int64{-1},
		script{spin, filledMany + "offer:1 a a a E10 a z"},
		script{spin, filledMany + "send:1 a a a a a a a a held:0 a a a a a a p2 S2-2 R2-2 a z"},
		script{never, filledMany + "send:1 a a a a - a a a a - held:0 a a a a a a p2 S2-2 R2-2 a z"},
		script{block, filledMany + "send:1 a a a a e a a a a z held:0 signal a a a a a a p2 S2-2 R2-2 a z"},
		script{block, filledMany + "send:1 a a a a e a a a a signal - a a a a e a a a a z"},
		script{timed, filledMany + "send:1 a a a a e a a a a z3 tick:3 a a a E14 a z"},
		script{spin, filledMany + "send:1 a a a alert:1 a E13 a z"},
		script{spin, filledMany + "held:0 send:1 a a a a alert:1 a a p2 S2-2 R2-2 a z"},
		script{spin, filledMany + "held:0 send:1 a a a a a claim:1 a a a a held:1 a a a a a a p3 S3-3 R3-3 a z"},
	)
}

// P15.2: those who hold back are read as they are when the cursor is; one whose cell isn't there is an error that ends the call.
func TestHolders(t *testing.T) {
	const begin = "a z send:2 a p0 p1 S0-1 R0-1 "
	played(t, room.Single, []int64{-1, 1, 0},
		script{spin, begin + "send:1 a a drop:2 drop:1 a a a a a held:0 a p2 S2-2 R2-2"},
		script{spin, begin + "offer:1 a a a a E10"},
		script{spin, begin + "hold:2000000 send:1 a a a a a E3 skip:1 drop:2000000 held:0 send:1 a a a a a p2 S2-2 R2-2"},
	)
}
