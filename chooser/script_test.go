package chooser_test

import (
	"noria/actor"
	"noria/api"
	"noria/chooser"
	"noria/room"
	"slices"
	"strconv"
	"strings"
	"testing"
)

// desk is what should be so of one of the rings.
type desk struct {
	start, next, done int64
	left              bool
}

// stage is a chooser, not the first actor, and another actor that waits for news of any ring.
type stage struct {
	*room.Room
	c     *chooser.Chooser
	list  []int
	other int
	desks map[int]*desk
	calls int
}

// set is a stage whose rings, of eight slots, are of one (s) or of many (m), with a chooser of some of them.
func set(t *testing.T, are string, list ...int) *stage { return late(t, 0, are, list...) }

// late is a stage in whose rings of many this is the first index.
func late(t *testing.T, first int64, are string, list ...int) *stage {
	t.Helper()
	s := &stage{Room: room.New(), list: list, desks: map[int]*desk{}}
	for i, k := range are {
		if k == 's' {
			s.Ring(8, room.Single)
			continue
		}
		s.Ring(8, room.Multi)
		s.Arena().Store(s.Cursor(i), first-1)
	}
	s.other, _, _ = s.Join()
	s.c = asker(t, s.Room, list...)
	for _, ring := range list {
		at := number(s.Room, s.Cursor(ring))
		s.desks[ring] = &desk{start: at + 1, next: at + 1, done: at}
	}
	return s
}

// act does something beside the steps, some at a ring; false: it isn't known.
func (s *stage) act(what string, ring int, n int64) (ok bool, e error) {
	switch what {
	case "sel":
		e = s.c.Select(int(n))
		s.calls++
	case "leave":
		e = s.c.Leave()
	case "pub":
		e = publish(s.Room, ring, int(n))
	case "claim":
		_, e = claim(s.Room, ring, int(n))
	case "show":
		_, e = s.Show(ring, n, n)
	case "alert":
		e = s.Arena().Store(s.c.Alert(), n)
	case "tick":
		_, e = s.Tick(n)
	case "signal":
		_, e = s.Signal(int(n))
	case "wake":
		_, e = s.Wake(s.c.Who())
	case "other":
		if _, e = s.Park(s.other, 0); e == nil {
			e = s.Enlist(int(n), s.other)
		}
	default:
		return false, nil
	}
	return true, e
}

// word is what a step is: a (silent, with one load), - (silent, with none), z (so, and it is parked), s (so, and all are told of news of a
// ring), h (Handled), m (Moved, with the store in the ring's cell), R (Returned, and all are told of news of the ring), E (Returned, with
// an error, and one load), L (Left), x (Stopped).
type word struct {
	kind byte
	ring int
	seq  int64
}

// read is a word of a text.
func read(s string) word {
	w := word{kind: s[0]}
	ring, seq, ok := strings.Cut(s[1:], ".")
	if !ok {
		ring, seq = "", ring
	}
	w.ring, _ = strconv.Atoi(ring)
	w.seq, _ = strconv.ParseInt(seq, 10, 64)
	if w.kind == 's' {
		w.ring = int(w.seq)
	}
	return w
}

// note is what is seen of it.
func (w word) note(who, first int) api.Note {
	n := api.Note{Who: who, Ring: w.ring, Lo: w.seq, Seq: w.seq}
	switch w.kind {
	case 'h':
		n.Deed, n.X = api.Handled, event(w.ring, w.seq)
		return n
	case 'm':
		n.Deed = api.Moved
		return n
	case 'R':
		n.Deed = api.Returned
		return n
	case 'L':
		n.Deed, n.Lo = api.Left, 0
		return n
	}
	n = api.Note{Who: who, Ring: first}
	switch w.kind {
	case 'E':
		n.Deed, n.Code = api.Returned, api.Errno(w.seq)
	case 'x':
		n.Deed = api.Stopped
	}
	return n
}

// state is what the chooser does behind it.
func (w word) state() actor.State {
	switch w.kind {
	case 'z':
		return actor.Parked
	case 'x':
		return actor.Halted
	}
	return actor.Ready
}

// cells is how many steps of cells it does.
func (w word) cells() int {
	if strings.IndexByte("amE", w.kind) >= 0 {
		return 1
	}
	return 0
}

// expect lets all be as it should be behind a word.
func (s *stage) expect(w word) {
	switch w.kind {
	case 'm':
		s.desks[w.ring].done = w.seq
	case 'R':
		s.desks[w.ring].next = w.seq + 1
		s.calls--
	case 'E':
		s.calls--
	case 'L':
		s.desks[w.ring].left = true
	}
}

// step does a step, and says what it isn't that a word tells.
func (s *stage) step(w word) string {
	was, parked := s.Arena().Steps(), s.Actors().State(s.other)
	var waits [][]int
	for ring := range s.Rings() {
		waits = append(waits, s.Waiting(ring))
	}
	n, e := s.c.Step()
	s.expect(w)
	switch {
	case e != nil:
		return e.Error()
	case n != w.note(s.c.Who(), s.list[0]):
		return "the note"
	case s.Actors().State(s.c.Who()) != w.state():
		return "the state"
	case s.Arena().Steps()-was != w.cells():
		return "the steps of cells"
	case s.c.Pending() != s.calls:
		return "the calls"
	case w.kind == 'z' && s.Clock().Waiting() > 0:
		return "a timer"
	}
	return s.stands() + s.news(w, parked, waits)
}

// stands says what is wrong with how it stands at its rings.
func (s *stage) stands() string {
	left := true
	for ring := range s.Rings() {
		d := s.desks[ring]
		if d == nil {
			if s.Gate(ring).Len() > 0 {
				return "it holds another ring back"
			}
			continue
		}
		holds := slices.Contains(s.Gate(ring).Cells(), s.c.Cell(ring))
		switch {
		case number(s.Room, s.c.Cell(ring)) != d.done || s.c.Next(ring) != d.next || s.c.Start(ring) != d.start:
			return "its cell, its next index, or its start"
		case holds == d.left || s.Gate(ring).Len() > 1:
			return "who holds back"
		}
		left = left && d.left
	}
	if s.c.Left() != left {
		return "whether it left all"
	}
	return ""
}

// news says what is wrong with who is told of news.
func (s *stage) news(w word, parked actor.State, waits [][]int) string {
	tells := w.kind == 's' || w.kind == 'R'
	if tells {
		if slices.Contains(waits[w.ring], s.other) {
			parked = actor.Ready
		}
		waits[w.ring] = nil
	}
	for ring, l := range waits {
		if !slices.Equal(s.Waiting(ring), l) {
			return "who waits for news"
		}
	}
	if s.Actors().State(s.other) != parked {
		return "who is woken"
	}
	return ""
}

// play does what the words say. A number behind a colon is one, or, with a dot, a ring and one.
func (s *stage) play(t *testing.T, text string) {
	t.Helper()
	for i, x := range strings.Fields(text) {
		what, num, _ := strings.Cut(x, ":")
		at := read("." + num)
		ok, e := s.act(what, at.ring, at.seq)
		if e != nil {
			t.Fatal(text, i, x, e)
		}
		if ok {
			continue
		}
		if what == "gone" || what == "there" {
			if s.c.Left() != (what == "gone") {
				t.Fatal(text, i, x, "it is not so")
			}
			continue
		}
		if why := s.step(read(x)); why != "" {
			t.Fatal(text, i, x, why)
		}
	}
}

// play plays texts, each on a stage of its own.
func play(t *testing.T, are string, list []int, texts ...string) {
	t.Helper()
	for _, text := range texts {
		set(t, are, list...).play(t, text)
	}
}

// P19.2: what a chooser does that has no call.
func TestIdle(t *testing.T) {
	for _, list := range [][]int{{0}, {1}, {2, 0}, {1, 2, 0}} {
		play(t, "sms", list,
			"a z wake a z wake a z there",
			"wake a - a z",
			"a wake - a z",
			// It isn't told of news, and what is there is nothing to it.
			"other:1 a z pub:1.2 pub:0.1 signal:0 signal:1 signal:2",
			"pub:0.1 pub:1.1 a z",
			// Alerted, it sleeps on.
			"alert:1 a z alert:0 wake a z",
			"a z alert:7 wake a z alert:-1 wake a z alert:9223372036854775807 wake a z",
			// A call that comes between the reading and the sleep.
			"a z tick:1099511627776 wake a z",
		)
	}
	play(t, "ss", []int{1, 0}, "a sel:0 - a a E11 a z", "a z sel:0 a a E11 a z", "sel:0 a a E11 a - a z")
}

// P19.2, P19.3, P19.6: what it does at rings of one: it handles an event of the first one that has one, from the one on from which it asks.
func TestSingle(t *testing.T) {
	play(t, "s", []int{0},
		"sel:0 a E11 a - a z",
		"pub:0.1 sel:0 a a h0.0 m0.0 R0.0 a - a z",
		"pub:0.3 sel:5 sel:-5 sel:1 a a h0.0 m0.0 R0.0 a a h0.1 m0.1 R0.1 a a h0.2 m0.2 R0.2 a - a z",
		"pub:0.1 sel:0 a a h0.0 other:0 m0.0 R0.0 a - a z",
	)
	play(t, "sss", []int{2, 0},
		"sel:0 a a E11 sel:1 a a E11 a - a z",
		"pub:1.1 sel:0 a a E11",
		"pub:0.1 sel:0 a a a h0.0 m0.0 R0.0 sel:0 a a E11",
		"pub:0.1 sel:1 a a h0.0 m0.0 R0.0 sel:1 a a E11",
		"pub:2.1 sel:0 a a h2.0 m2.0 R2.0 sel:0 a a E11",
		"pub:2.1 sel:1 a a a h2.0 m2.0 R2.0 sel:1 a a E11",
		"pub:2.2 pub:0.2 sel:0 sel:1 sel:2 sel:3 sel:4 a a h2.0 m2.0 R2.0 a a h0.0 m0.0 R0.0 a a h2.1 m2.1 R2.1 a a h0.1 m0.1 R0.1 a a E11",
		"pub:2.2 pub:0.2 sel:-1 sel:-1 sel:-2 sel:-3 a a h0.0 m0.0 R0.0 a a h0.1 m0.1 R0.1 a a h2.0 m2.0 R2.0 a a a h2.1 m2.1 R2.1",
		// What is published counts till the ring is asked.
		"sel:0 a pub:2.1 a h2.0 m2.0 R2.0", "sel:0 a a pub:2.1 E11", "sel:0 a a pub:2.1 pub:0.1 a h0.0 m0.0 R0.0 sel:0 a a h2.0 m2.0 R2.0",
		"pub:2.1 sel:1 a pub:0.1 a h0.0 m0.0 R0.0 sel:1 a a a h2.0 m2.0 R2.0",
		// Those who wait for news of the ring are told, and no others.
		"pub:2.1 sel:0 a a h2.0 other:2 m2.0 R2.0 a - a z",
		"pub:2.1 sel:0 a a other:0 h2.0 m2.0 R2.0 a - a z",
	)
	play(t, "sss", []int{1, 2, 0},
		"pub:0.1 pub:1.1 pub:2.1 sel:2 sel:2 sel:2 sel:2 a a h0.0 m0.0 R0.0 a a a h1.0 m1.0 R1.0 a a a a h2.0 m2.0 R2.0 a a a E11",
		"pub:0.1 pub:1.1 pub:2.1 sel:1 sel:1 sel:1 sel:1 a a h2.0 m2.0 R2.0 a a a h0.0 m0.0 R0.0 a a a a h1.0 m1.0 R1.0 a a a E11",
		"sel:1 a a a pub:0.1 pub:2.1 E11",
	)
	s := set(t, "ssssssss", 7, 6, 5, 4, 3, 2, 1, 0)
	s.play(t, "sel:3 a a a a a a a a E11 pub:5.1 sel:3 a a a a a a a a a h5.0 m5.0 R5.0 sel:2 a a a a a a a a E11 a - a z")
}

// P19.2, P19.4, P19.6: what it does at rings of many: one that has claimed its next index, and not shown, is gating, and passed over.
func TestMulti(t *testing.T) {
	play(t, "m", []int{0},
		"sel:0 a E11 a - a z",
		"claim:0.1 sel:0 a a E12 show:0.0 sel:0 a a a h0.0 m0.0 R0.0 sel:0 a E11",
		"claim:0.2 show:0.1 sel:0 a a E12 show:0.0 sel:0 sel:0 a a a h0.0 m0.0 R0.0 a a a h0.1 m0.1 R0.1",
		// What is claimed counts till the cursor is read, what is shown till that is.
		"sel:0 a claim:0.1 a show:0.0 a h0.0 m0.0 R0.0", "sel:0 a claim:0.1 a E12", "claim:0.1 sel:0 a a E12 show:0.0 a - a z",
		"pub:0.8 sel:0 a a a h0.0 m0.0 R0.0 pub:0.1 sel:0 a a a h0.1 m0.1 R0.1",
	)
	play(t, "mm", []int{1, 0},
		"claim:1.1 sel:0 a a a E12", "claim:0.1 sel:0 a a a E12", "claim:0.1 sel:1 a a a E12", "claim:0.1 claim:1.1 sel:1 a a a a E12", "sel:1 a a E11",
		"claim:1.1 pub:0.1 sel:0 a a a a a h0.0 m0.0 R0.0 sel:0 a a a E12",
		"claim:1.1 pub:0.1 sel:1 a a a h0.0 m0.0 R0.0 sel:1 a a a E12 sel:0 a a a E12 show:1.0 sel:1 a a a a h1.0 m1.0 R1.0 sel:1 a a E11",
		// One that was gating when it was asked counts, though it isn't any more; one that is later doesn't.
		"claim:1.1 sel:0 a a a show:1.0 E12", "sel:0 a a claim:1.1 E11", "sel:0 a a claim:1.1 claim:0.1 a E12",
		// The next call begins anew.
		"claim:1.1 sel:0 sel:0 a a a E12 show:1.0 a a a h1.0 m1.0 R1.0 sel:0 a a E11",
	)
	play(t, "smsm", []int{3, 0, 1},
		"claim:3.1 claim:1.1 pub:0.1 sel:0 a a a a h0.0 m0.0 R0.0 sel:1 a a a a a E12",
		"pub:3.1 pub:0.1 pub:1.1 sel:2 sel:2 sel:2 sel:2 a a a h1.0 m1.0 R1.0 a a a a h3.0 m3.0 R3.0 a a a a h0.0 m0.0 R0.0 a a a E11",
		"claim:1.1 sel:1 a a a a E12", "claim:3.1 sel:1 a a a a E12", "claim:3.1 sel:0 a a a a E12",
		"pub:1.1 sel:0 a a a other:0 a a h1.0 other:3 m1.0 R1.0 a - a z",
		"pub:1.1 sel:0 a a a a a h1.0 m1.0 other:1 R1.0 a - a z",
	)
	// Up to the greatest index.
	late(t, 1<<62-1, "mm", 1, 0).play(t, "pub:1.2 claim:0.2 show:0.4611686018427387904 sel:0 sel:0 sel:0 "+
		"a a a h1.4611686018427387903 m1.4611686018427387903 R1.4611686018427387903 "+
		"a a a h1.4611686018427387904 m1.4611686018427387904 R1.4611686018427387904 a a a E12")
}

// P19.2: a call of one that is alerted ends when it begins; what began goes on.
func TestTold(t *testing.T) {
	for _, list := range [][]int{{0, 1}, {1, 0}} {
		play(t, "ss", list,
			"sel:0 alert:1 E13 a - a z",
			"sel:0 sel:1 alert:1 E13 E13 a - a z alert:0 sel:0 a a E11",
			"pub:0.1 pub:1.1 sel:0 alert:1 E13",
			"a sel:0 alert:1 - E13 a z",
			"sel:0 a alert:1 a E11 sel:0 E13",
			"pub:0.1 pub:1.1 sel:0 sel:0 a alert:1 a h"+num(list[0])+".0 m"+num(list[0])+".0 R"+num(list[0])+".0 E13 a - a z",
			// One that is told by another number goes on.
			"sel:0 alert:7 a a E11 alert:-1 sel:0 a a E11 a - a z",
			// One that is told to drain does its calls first.
			"sel:0 sel:1 alert:2 a a E11 a a E11 a L"+num(list[0])+".-1 s"+num(list[0])+" L"+num(list[1])+".-1 s"+num(list[1])+" x gone",
		)
	}
}

// num is a number as a text.
func num(n int) string { return strconv.Itoa(n) }

// P19.1, P19.2: who should leave, or is told to drain, leaves its rings one by one, as they were named, when it has no call; of each all
// are told who wait for news of it.
func TestLeaves(t *testing.T) {
	play(t, "sm", []int{1},
		"leave a there L1.-1 gone s1 x gone", "alert:2 a L1.-1 s1 x", "a z leave a L1.-1 s1 x", "a z alert:2 wake a L1.-1 s1 x", "a leave - a L1.-1 s1 x",
		"a alert:2 z wake a L1.-1 s1 x",
	)
	play(t, "sms", []int{2, 1, 0},
		"leave a L2.-1 there s2 L1.-1 there s1 L0.-1 gone s0 gone x gone",
		"alert:2 a L2.-1 s2 there L1.-1 s1 L0.-1 gone s0 x",
		"leave leave a L2.-1 leave s2 leave L1.-1 s1 L0.-1 leave s0 leave x",
		"leave a other:2 L2.-1 s2 other:0 L1.-1 s1 L0.-1 s0 x",
		"leave a L2.-1 other:1 s2 L1.-1 s1 other:0 L0.-1 other:0 s0 other:0 x",
		"pub:2.2 pub:0.1 sel:0 sel:0 sel:1 a a h2.0 m2.0 R2.0 a a h2.1 m2.1 R2.1 a a a h0.0 m0.0 R0.0 leave a L2.1 s2 L1.-1 s1 L0.0 s0 x",
		// Its calls end first, by the alert, or otherwise, if that is another one then.
		"sel:0 sel:1 leave E13 E13 a L2.-1 s2 L1.-1 s1 L0.-1 s0 x",
		"sel:0 leave alert:0 a a a E11 a L2.-1 s2 L1.-1 s1 L0.-1 s0 x",
		"sel:0 a leave a a E11 sel:1 E13 a L2.-1 s2 L1.-1 s1 L0.-1 s0 x",
		"pub:1.1 sel:1 a a a leave h1.0 leave m1.0 leave R1.0 a L2.-1 s2 L1.0 s1 L0.-1 s0 x",
		"pub:0.1 sel:2 a a alert:2 h0.0 m0.0 R0.0 a L2.-1 s2 L1.-1 s1 L0.0 s0 x",
		// It leaves whatever its alert has then, and goes on with that.
		"leave alert:0 a L2.-1 s2 L1.-1 s1 L0.-1 s0 x", "leave alert:7 a alert:0 L2.-1 s2 L1.-1 s1 L0.-1 s0 x", "alert:2 a alert:0 L2.-1 s2 L1.-1 s1 L0.-1 s0 x",
	)
}

// The examples of the chapter.
func TestExamples(t *testing.T) {
	for _, are := range []string{"ss", "ms"} {
		play(t, are, []int{0, 1}, "pub:1.1 sel:0 a a a h1.0 m1.0 R1.0", "sel:0 a a E11")
	}
}
