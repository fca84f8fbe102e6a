package consumer_test

import (
	"math/rand/v2"
	"noria/actor"
	"noria/api"
	"noria/barrier"
	"noria/consumer"
	"noria/producer"
	"noria/room"
	"noria/wait"
	"slices"
	"testing"
)

// sent is a producer, and the events of its calls that haven't ended.
type sent struct {
	*producer.Producer
	calls [][]api.Event
	// How many events of the first call are shown.
	shown int
}

// reader is a consumer, and what is known of it from outside.
type reader struct {
	*consumer.Consumer
	way   wait.Way
	batch int
	ahead []*reader
	// The index that it handles next, and since when it waits.
	next, since int64
	// It was told to leave, and how many steps it did since it was told to stop (-1: it wasn't).
	leaves bool
	steps  int
}

// world is a room with one ring, who sends to it, and who handles its events.
type world struct {
	*room.Room
	slots   int64
	senders []*sent
	list    []*reader
	// Who published, moved or left, and hasn't signalled yet.
	unsaid map[int]bool
	// What was published, index by index.
	log map[int64]api.Event
	key int64
	// How often each deed was seen.
	deeds [8]int
}

// create is a world.
func create(t *testing.T, slots int, k room.Kind, ways ...wait.Way) *world {
	t.Helper()
	w := &world{Room: rings(t, slots, k), slots: int64(slots), unsaid: map[int]bool{}, log: map[int64]api.Event{}}
	for _, y := range ways {
		p, e := producer.New(w.Room, 0, y)
		if e != nil {
			t.Fatal(e)
		}
		w.senders = append(w.senders, &sent{Producer: p})
	}
	return w
}

// join lets there be one consumer more, behind some.
func (w *world) join(t *testing.T, y wait.Way, batch int, ahead ...*reader) *reader {
	t.Helper()
	var after []int
	for _, x := range ahead {
		after = append(after, x.Cell())
	}
	cursor := w.load(w.Cursor(0))
	h := &reader{Consumer: handler(t, w.Room, 0, y, batch, after...), way: y, batch: batch, ahead: ahead, since: w.Clock().Now(), steps: -1}
	if h.next = h.Start(); h.next != cursor+1 {
		t.Fatal("it starts elsewhere", h.next, cursor)
	}
	w.list = append(w.list, h)
	return h
}

// load is what a cell has: how many steps there were doesn't matter here.
func (w *world) load(id int) int64 {
	v, _ := w.Arena().Load(id)
	return v
}

// state is what an actor does.
func (w *world) state(who int) actor.State { return w.Actors().State(who) }

// send lets somebody have a call more, if it may; it says what was wrong.
func (w *world) send(i int, n int64) string {
	s := w.senders[i]
	if w.state(s.Who()) == actor.Halted || s.Pending() >= 8 {
		return ""
	}
	l := make([]api.Event, n)
	for i := range l {
		w.key++
		l[i] = api.Event{Key: w.key, Val: -w.key}
	}
	s.calls = append(s.calls, l)
	if e := s.Send(l...); e != nil {
		return e.Error()
	}
	return ""
}

// produce is a step of somebody who sends, if it is ready.
func (w *world) produce(i int) string {
	s := w.senders[i]
	if w.state(s.Who()) != actor.Ready {
		return ""
	}
	n, e := s.Step()
	if e != nil {
		return e.Error()
	}
	switch n.Deed {
	case api.Shown:
		for seq := n.Lo; seq <= n.Seq; seq++ {
			w.log[seq] = s.calls[0][s.shown]
			s.shown++
		}
		w.unsaid[s.Who()] = true
	case api.Returned:
		s.calls, s.shown = s.calls[1:], 0
		delete(w.unsaid, s.Who())
	}
	return w.wrong()
}

// consume is a step of somebody who handles, if it is ready; it says what was wrong.
func (w *world) consume(h *reader) string {
	if w.state(h.Who()) != actor.Ready {
		return ""
	}
	if h.steps >= 0 {
		h.steps++
	}
	was, said := h.Next(), w.unsaid[h.Who()]
	n, e := h.Step()
	if e != nil {
		return e.Error()
	}
	if n.Who != h.Who() || n.Ring != 0 || n.Code != 0 || n.Deed != api.Handled && n.X != (api.Event{}) {
		return "the note"
	}
	w.deeds[n.Deed]++
	if why := w.seen(h, n, was); why != "" {
		return why
	}
	// Behind what it moved, or left, it signals.
	if said {
		delete(w.unsaid, h.Who())
		if n.Deed != api.Silent || len(w.Waiting(0)) > 0 {
			return "it doesn't signal"
		}
		h.since = w.Clock().Now()
	}
	if h.steps > h.bound(w.slots) || h.steps == h.bound(w.slots) && w.state(h.Who()) != actor.Halted {
		return "it doesn't stop"
	}
	return w.wrong()
}

// bound is within how many steps it is Halted that is told to stop.
func (h *reader) bound(slots int64) int { return h.batch + len(h.ahead) + int(slots) + 8 }

// seen says what is wrong with what was seen; its next index was another one, perhaps.
func (w *world) seen(h *reader, n api.Note, was int64) string {
	switch n.Deed {
	case api.Silent:
		if n.Lo != 0 || n.Seq != 0 {
			return "a silent note"
		}
	case api.Handled:
		return w.handle(h, n)
	case api.Moved:
		w.unsaid[h.Who()] = true
		if n.Lo != was || n.Seq != h.next-1 || n.Seq < n.Lo || n.Seq-n.Lo >= int64(h.batch) || h.Next() != h.next {
			return "it moved"
		}
	case api.Late:
		if h.way.Kind != wait.Timed || w.Clock().Now() < h.since+h.way.Time || n.Lo != 0 || n.Seq != h.Next() {
			return "it is late"
		}
		h.since = w.Clock().Now()
	case api.Left:
		w.unsaid[h.Who()] = true
		if !h.leaves || !h.Left() || n.Lo != 0 || n.Seq != h.next-1 {
			return "it left"
		}
	case api.Stopped:
		if w.state(h.Who()) != actor.Halted || n.Lo != 0 || n.Seq != h.next-1 || n.Seq != w.load(h.Cell()) {
			return "it stopped"
		}
	default:
		return "the deed"
	}
	return ""
}

// handle says what is wrong with what was handled.
func (w *world) handle(h *reader, n api.Note) string {
	if n.Lo != h.next || n.Seq != h.next {
		return "it handles another index"
	}
	h.next++
	x, ok := w.log[n.Seq]
	if !ok || n.X != x {
		return "it handles what wasn't published"
	}
	for _, a := range h.ahead {
		if w.load(a.Cell()) < n.Seq {
			return "it handles what those ahead aren't done with"
		}
	}
	return ""
}

// there says whether somebody's next index is there.
func (w *world) there(h *reader) bool {
	for _, a := range h.ahead {
		if w.load(a.Cell()) < h.Next() {
			return false
		}
	}
	if len(h.ahead) > 0 {
		return true
	}
	hi, e := w.Published(0, h.Next())
	return e == nil && hi >= h.Next()
}

// wrong says what is wrong with how all stand.
func (w *world) wrong() string {
	group := w.Gate(0).Cells()
	for _, h := range w.list {
		done := w.load(h.Cell())
		switch {
		case done != h.Next()-1 || done > h.next-1 || h.next-1-done > int64(h.batch):
			return "what it is done with"
		case h.Left() == slices.Contains(group, h.Cell()):
			return "who holds back"
		case !h.Left() && w.load(w.Cursor(0)) > done+w.slots:
			return "more are claimed than it lets"
		case len(w.unsaid) == 0 && w.state(h.Who()) == actor.Parked && w.there(h):
			return "it is left asleep"
		}
	}
	return ""
}

// tell lets somebody's alert be something, and wakes it.
func (w *world) tell(h *reader, sign int64) {
	if w.state(h.Who()) == actor.Halted {
		return
	}
	w.Arena().Store(h.Alert(), sign)
	w.Wake(h.Who())
	switch {
	case sign != barrier.Alerted:
		h.steps = -1
	case h.steps < 0:
		h.steps = 0
	}
}

// leave tells somebody to leave, if it hasn't; it says what was wrong.
func (w *world) leave(h *reader) string {
	halted := w.state(h.Who()) == actor.Halted
	if h.Left() {
		return ""
	}
	n, e := h.Leave()
	want := api.Note{Who: h.Who()}
	if halted {
		want.Deed, want.Seq = api.Left, h.next-1
	} else {
		h.leaves, h.steps = true, max(h.steps, 0)
	}
	if e != nil || n != want || halted != h.Left() {
		return "the note of Leave"
	}
	return w.wrong()
}

// stuck says whether somebody does nothing any more, or is behind one that does nothing any more.
func (w *world) stuck(h *reader) bool {
	return w.state(h.Who()) == actor.Halted || slices.ContainsFunc(h.ahead, w.stuck)
}

// settle lets all go on in turn, till all is handled, and who is stuck has left; it says what was wrong.
func (w *world) settle() string {
	for _, h := range w.list {
		w.tell(h, barrier.Quiet)
	}
	for range 5000 {
		left := 0
		for i, s := range w.senders {
			if why := w.produce(i); why != "" {
				return why
			}
			left += s.Pending()
		}
		for _, h := range w.list {
			why := w.consume(h)
			if w.stuck(h) {
				why += w.leave(h)
			}
			if why != "" {
				return why
			}
			if !h.Left() && (w.stuck(h) || h.Next() != w.load(w.Cursor(0))+1) {
				left++
			}
		}
		if left == 0 && len(w.unsaid) == 0 {
			return w.whole()
		}
	}
	return "not all is handled"
}

// whole says whether all that was published is what was handled.
func (w *world) whole() string {
	last := w.load(w.Cursor(0))
	if int64(len(w.log)) != last+1 {
		return "what is published"
	}
	for _, h := range w.list {
		if !h.Left() && h.next != last+1 {
			return "not all is handled"
		}
	}
	return ""
}

// some is one of many acts, as a generator picks it. Only those from a place on may be told to stop, or leave.
func (w *world) some(t *testing.T, r *rand.Rand, anchors int) string {
	h := w.list[r.IntN(len(w.list))]
	free := slices.Index(w.list, h) >= anchors
	switch what := r.IntN(60); {
	case what < 8:
		return w.send(r.IntN(len(w.senders)), 1+r.Int64N(min(w.slots, 5)))
	case what < 28:
		return w.produce(r.IntN(len(w.senders)))
	case what < 30:
		w.Tick(1 + r.Int64N(3))
	case what == 30 && r.IntN(20) == 0 && free:
		w.tell(h, barrier.Alerted)
	case what == 31 && r.IntN(30) == 0 && free:
		w.tell(h, barrier.Drain)
	case what == 32:
		w.tell(h, barrier.Quiet)
	case what == 33 && r.IntN(10) == 0 && free:
		return w.leave(h)
	case what == 34 && r.IntN(10) == 0 && len(w.list) < 12:
		return w.more(t, r)
	case what > 34:
		return w.consume(h)
	}
	return w.wrong()
}

// more lets there be one consumer more, behind some of those that go on.
func (w *world) more(t *testing.T, r *rand.Rand) string {
	var ahead []*reader
	for _, h := range w.list {
		if r.IntN(3) == 0 && w.state(h.Who()) != actor.Halted && !h.leaves {
			ahead = append(ahead, h)
		}
	}
	w.join(t, all[r.IntN(len(all))], 1+r.IntN(6), ahead...)
	return w.wrong()
}

// P16.2 to P16.8: long runs, that a generator picks, always the same, of those who send and those who handle, who come, stop and leave.
func TestLong(t *testing.T) {
	var deeds [8]int
	for seed := range uint64(300) {
		r := rand.New(rand.NewPCG(seed, 16))
		k := kinds[seed%2]
		n := 1
		if k == room.Multi {
			n = 1 + int(seed/2)%3
		}
		first := int(seed) % len(all)
		ways := append(slices.Clone(all[first:]), all...)
		w := create(t, 1<<(seed/3%4), k, ways[:n]...)
		// Where many may send the ring might be torn, if nobody held it back: the first one does so all along.
		anchors := int(seed % 2)
		for i := range 1 + int(seed/2)%4 {
			w.join(t, ways[i], 1+int(seed/5%4), w.list[max(0, i-2):i]...)
		}
		for i := range 1200 {
			if why := w.some(t, r, anchors); why != "" {
				t.Fatal(seed, i, why)
			}
		}
		if why := w.settle(); why != "" {
			t.Fatal(seed, why)
		}
		for d, n := range w.deeds {
			deeds[d] += n
		}
	}
	for _, d := range []api.Deed{api.Silent, api.Handled, api.Moved, api.Late, api.Left, api.Stopped} {
		if deeds[d] < 100 {
			t.Fatal(d, deeds)
		}
	}
}

// P16.3, P16.4, P16.7: one who sends, one who handles, and one behind it, in all turns of some steps; then all goes on, and nobody is left asleep.
func TestTurns(t *testing.T) {
	const long = 8
	for _, k := range kinds {
		for _, far := range [][3]int{{0, 0, 0}, {0, 2, 2}, {3, 5, 5}, {0, 7, 8}, {9, 4, 3}} {
			for run := range 6561 {
				w := create(t, 2, k, block)
				a := w.join(t, block, 2)
				b := w.join(t, block, 1, a)
				why := w.send(0, 1) + w.send(0, 2)
				for i, n := range far {
					for range n {
						why += w.turn(a, b, i)
					}
				}
				for x, i := run, 0; i < long; i++ {
					why += w.turn(a, b, x%3)
					x /= 3
				}
				if why += w.settle(); why != "" {
					t.Fatal(k, far, run, why)
				}
				if a.next != 3 || b.next != 3 {
					t.Fatal(k, far, run, a.next, b.next)
				}
			}
		}
	}
}

// turn is a step of one of three.
func (w *world) turn(a, b *reader, i int) string {
	switch i {
	case 0:
		return w.produce(0)
	case 1:
		return w.consume(a)
	}
	return w.consume(b)
}

// P16.6: who is alerted, and woken, at whatever moment, is Halted within so many of its own steps, whether others go on meanwhile or not.
func TestStops(t *testing.T) {
	longest := 0
	for seed := range uint64(40) {
		for far := range 60 {
			r := rand.New(rand.NewPCG(seed, 17))
			k := kinds[seed%2]
			w := create(t, 1<<(seed/2%4), k, spin)
			var ahead []*reader
			for range seed / 8 % 3 {
				ahead = append(ahead, w.join(t, spin, 8))
			}
			h := w.join(t, all[seed%5], 1+int(seed/4%8), ahead...)
			why := w.send(0, min(w.slots, 5)) + w.send(0, min(w.slots, 3)) + w.send(0, w.slots)
			for range 5 * far {
				if r.IntN(3) > 0 {
					why += w.produce(0)
				}
				for _, a := range ahead {
					why += w.consume(a)
				}
				if r.IntN(2) == 0 {
					why += w.consume(h)
				}
			}
			leaves := far%2 == 0
			if leaves {
				why += w.leave(h)
			} else {
				w.tell(h, barrier.Alerted)
			}
			for i := 0; why == "" && i < 200; i++ {
				if seed%3 == 0 {
					why += w.produce(0)
				}
				why += w.consume(h)
			}
			if why != "" || w.state(h.Who()) != actor.Halted || h.Left() != leaves || h.next != w.load(h.Cell())+1 {
				t.Fatal(seed, far, why, h.Left(), h.next)
			}
			longest = max(longest, h.steps-h.batch-len(ahead)-int(w.slots))
		}
	}
	if longest < 3 {
		t.Fatal(longest, "is far from the bound")
	}
}

// P16.6: the longest way to stop: who is to read all slots, and to handle as many as it may at once.
func TestLongest(t *testing.T) {
	for slots := 1; slots <= 64; slots *= 2 {
		w := create(t, slots, room.Multi, spin)
		h := w.join(t, spin, slots)
		why := w.send(0, int64(slots))
		for range 200 {
			why += w.produce(0)
		}
		why += w.consume(h) + w.leave(h)
		for range 200 {
			why += w.consume(h)
		}
		// The cursor, the slots, the events, moved, signal, alert, leave, bell, stop.
		if want := 2*slots + 7; why != "" || h.steps != want || h.next != int64(slots) {
			t.Fatal(slots, why, h.steps, want)
		}
	}
}

// P16.3: whatever way it waits, however many it handles at once, however many slots there are: it handles what was sent, as it was sent.
func TestSame(t *testing.T) {
	for _, k := range kinds {
		for _, y := range all {
			for _, batch := range []int{1, 2, 5, api.MaxBatch} {
				for shift := range 5 {
					w := create(t, 1<<shift, k, block)
					a := w.join(t, y, batch)
					b := w.join(t, block, 3, a)
					why := ""
					for range 8 {
						why += w.send(0, 1)
					}
					if why += w.settle(); why != "" || a.next != 8 || b.next != 8 {
						t.Fatal(k, y, batch, shift, why, a.next, b.next)
					}
					for seq := range int64(8) {
						if w.log[seq] != (api.Event{Key: seq + 1, Val: -seq - 1}) {
							t.Fatal(w.log)
						}
					}
				}
			}
		}
	}
}

// P16.5, P16.7: who leaves lets those go on who had no room, and they aren't left asleep.
func TestLeft(t *testing.T) {
	for _, k := range kinds {
		w := create(t, 2, k, block)
		h := w.join(t, block, 1)
		x := w.join(t, block, 1, h)
		w.tell(h, barrier.Alerted)
		why := w.send(0, 2) + w.send(0, 1)
		for range 60 {
			why += w.produce(0) + w.consume(h) + w.consume(x)
		}
		if why != "" || w.state(h.Who()) != actor.Halted || w.state(x.Who()) != actor.Parked || w.state(w.senders[0].Who()) != actor.Parked {
			t.Fatal(k, why, w.state(h.Who()), w.state(x.Who()))
		}
		why = w.leave(x)
		for range 60 {
			why += w.produce(0) + w.consume(x)
		}
		if why != "" || !x.Left() || w.senders[0].Pending() != 1 {
			t.Fatal(k, why, x.Left(), w.senders[0].Pending())
		}
		why = w.leave(h)
		for range 60 {
			why += w.produce(0)
		}
		if why != "" || !h.Left() || w.senders[0].Pending() != 0 || len(w.log) != 3 {
			t.Fatal(k, why, h.Left(), w.senders[0].Pending(), w.log)
		}
	}
}
