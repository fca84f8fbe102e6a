package poller_test

import (
	"errors"
	"math/rand/v2"
	"noria/actor"
	"noria/api"
	"noria/barrier"
	"noria/consumer"
	"noria/poller"
	"noria/producer"
	"noria/room"
	"noria/wait"
	"slices"
	"testing"
)

// sent is a producer, and the events of its calls that haven't ended.
type sent struct {
	*producer.Producer
	calls [][]api.Event
	// How many events of the first call are shown.
	shown int
}

// party is one that others may be behind.
type party interface {
	Who() int
	Cell() int
	Left() bool
	// behind are those ahead of it.
	behind() []party
}

// reader is a consumer, and the index that it handles next.
type reader struct {
	*consumer.Consumer
	ahead []party
	next  int64
}

func (h *reader) behind() []party { return h.ahead }

// call is what a poller was asked for.
type call struct {
	most  int
	waits bool
	// Since when it is the first one; how many events it handled; its next index wasn't there at one of its steps.
	begun bool
	since int64
	took  int64
	vain  bool
}

// asked is a poller, and what is known of it from outside.
type asked struct {
	*poller.Poller
	way   wait.Way
	ahead []party
	calls []call
	// The index that it handles next, and what its cell has.
	next, done int64
	// It was told to leave; it was told to drain.
	leaves, drains bool
}

func (h *asked) behind() []party { return h.ahead }

// world is a room with one ring, who sends to it, who asks it, and who handles all of its events.
type world struct {
	*room.Room
	slots   int64
	senders []*sent
	list    []*asked
	readers []*reader
	// Who published, moved or left, and hasn't signalled yet.
	unsaid map[int]bool
	// What was published, index by index.
	log map[int64]api.Event
	key int64
	// How often each deed was seen, and how calls ended.
	deeds [8]int
	ends  map[api.Errno]int
}

// create is a world.
func create(t *testing.T, slots int, k room.Kind, ways ...wait.Way) *world {
	t.Helper()
	w := &world{Room: rings(t, slots, k), slots: int64(slots), unsaid: map[int]bool{}, log: map[int64]api.Event{}, ends: map[api.Errno]int{}}
	for _, y := range ways {
		p, e := producer.New(w.Room, 0, y)
		if e != nil {
			t.Fatal(e)
		}
		w.senders = append(w.senders, &sent{Producer: p})
	}
	return w
}

// cells are those of some.
func cells(l []party) []int {
	var ids []int
	for _, x := range l {
		ids = append(ids, x.Cell())
	}
	return ids
}

// join lets there be one poller more, behind some.
func (w *world) join(t *testing.T, y wait.Way, ahead ...party) *asked {
	t.Helper()
	cursor := w.load(w.Cursor(0))
	h := &asked{Poller: asker(t, w.Room, 0, y, cells(ahead)...), way: y, ahead: ahead, next: cursor + 1, done: cursor}
	if h.Start() != h.next {
		t.Fatal("it starts elsewhere", h.next, cursor)
	}
	w.list = append(w.list, h)
	return h
}

// read lets there be one consumer more, behind some.
func (w *world) read(t *testing.T, y wait.Way, batch int, ahead ...party) *reader {
	t.Helper()
	c, e := consumer.New(w.Room, 0, y, batch, cells(ahead)...)
	if e != nil {
		t.Fatal(e)
	}
	h := &reader{Consumer: c, ahead: ahead, next: c.Start()}
	w.readers = append(w.readers, h)
	return h
}

// load is what a cell has: how many steps there were doesn't matter here.
func (w *world) load(id int) int64 {
	v, _ := w.Arena().Load(id)
	return v
}

// state is what an actor does.
func (w *world) state(who int) actor.State { return w.Actors().State(who) }

// send lets somebody have a call more, if it may; it says what was wrong.
func (w *world) send(i int, n int64) string {
	s := w.senders[i]
	if s.Pending() >= 8 {
		return ""
	}
	l := make([]api.Event, n)
	for i := range l {
		w.key++
		l[i] = api.Event{Key: w.key, Val: -w.key}
	}
	s.calls = append(s.calls, l)
	if e := s.Send(l...); e != nil {
		return e.Error()
	}
	return ""
}

// ask lets a poller have a call more, if it takes one; 0: a Receive. It says what was wrong.
func (w *world) ask(h *asked, n int) string {
	if w.state(h.Who()) == actor.Halted || h.leaves || len(h.calls) >= 8 {
		return ""
	}
	e := h.Poll(n)
	if n == 0 {
		e = h.Receive()
	}
	// It may be about to stop: that is told by nothing else.
	if errors.Is(e, api.ErrHalted) && len(h.calls) == 0 && h.drains {
		return ""
	}
	if e != nil {
		return e.Error()
	}
	h.calls = append(h.calls, call{most: max(n, 1), waits: n == 0})
	return w.wrong()
}

// produce is a step of somebody who sends, if it is ready.
func (w *world) produce(i int) string {
	s := w.senders[i]
	if w.state(s.Who()) != actor.Ready {
		return ""
	}
	n, e := s.Step()
	if e != nil {
		return e.Error()
	}
	switch n.Deed {
	case api.Shown:
		for seq := n.Lo; seq <= n.Seq; seq++ {
			w.log[seq] = s.calls[0][s.shown]
			s.shown++
		}
		w.unsaid[s.Who()] = true
	case api.Returned:
		s.calls, s.shown = s.calls[1:], 0
		delete(w.unsaid, s.Who())
	}
	return w.wrong()
}

// consume is a step of a consumer, if it is ready; it says what was wrong.
func (w *world) consume(h *reader) string {
	if w.state(h.Who()) != actor.Ready {
		return ""
	}
	said := w.unsaid[h.Who()]
	n, e := h.Step()
	if e != nil {
		return e.Error()
	}
	if said {
		delete(w.unsaid, h.Who())
	}
	switch n.Deed {
	case api.Moved, api.Left:
		w.unsaid[h.Who()] = true
	case api.Handled:
		if n.Seq != h.next || n.X != w.log[n.Seq] || !w.cleared(h, n.Seq) {
			return "what a consumer handles"
		}
		h.next++
	}
	return w.wrong()
}

// cleared says whether those ahead of somebody are done with an index.
func (w *world) cleared(h party, seq int64) bool {
	for _, a := range h.behind() {
		if w.load(a.Cell()) < seq {
			return false
		}
	}
	return true
}

// there says whether a poller's next index is there.
func (w *world) there(h *asked) bool {
	if len(h.ahead) > 0 {
		return w.cleared(h, h.Next())
	}
	hi, e := w.Published(0, h.Next())
	return e == nil && hi >= h.Next()
}

// poll is a step of a poller, if it is ready; it says what was wrong.
func (w *world) poll(h *asked) string {
	if w.state(h.Who()) != actor.Ready {
		return ""
	}
	if len(h.calls) > 0 {
		c := &h.calls[0]
		if !c.begun {
			c.begun, c.since = true, w.Clock().Now()
		}
		c.vain = c.vain || !w.there(h)
	}
	said := w.unsaid[h.Who()]
	n, e := h.Step()
	if e != nil {
		return e.Error()
	}
	if n.Who != h.Who() || n.Ring != 0 || n.Code != 0 && n.Deed != api.Returned || n.X != (api.Event{}) && n.Deed != api.Handled {
		return "the note"
	}
	w.deeds[n.Deed]++
	if why := w.seen(h, n); why != "" {
		return why
	}
	// Behind what it moved, or left, it signals.
	if said {
		delete(w.unsaid, h.Who())
		if h.Left() == (n.Deed == api.Returned) || len(w.Waiting(0)) > 0 {
			return "it doesn't signal"
		}
	}
	return w.wrong()
}

// seen says what is wrong with what was seen of a poller.
func (w *world) seen(h *asked, n api.Note) string {
	switch n.Deed {
	case api.Silent:
		if n.Lo != 0 || n.Seq != 0 {
			return "a silent note"
		}
	case api.Handled:
		return w.handle(h, n)
	case api.Moved:
		w.unsaid[h.Who()] = true
		if h.done = n.Seq; len(h.calls) == 0 || n.Lo != h.Next() || n.Seq != h.next-1 || n.Seq-n.Lo != h.calls[0].took-1 {
			return "it moved"
		}
	case api.Returned:
		if len(h.calls) == 0 {
			return "it returned without a call"
		}
		c := h.calls[0]
		h.calls = h.calls[1:]
		return w.end(h, c, n)
	case api.Left:
		w.unsaid[h.Who()] = true
		if !h.leaves || !h.Left() || len(h.calls) > 0 || n.Lo != 0 || n.Seq != h.next-1 {
			return "it left"
		}
	case api.Stopped:
		if w.state(h.Who()) != actor.Halted || len(h.calls) > 0 || n.Lo != 0 || n.Seq != h.next-1 {
			return "it stopped"
		}
	default:
		return "the deed"
	}
	return ""
}

// handle says what is wrong with what was handled.
func (w *world) handle(h *asked, n api.Note) string {
	if n.Lo != h.next || n.Seq != h.next || len(h.calls) == 0 {
		return "it handles another index"
	}
	h.next++
	h.calls[0].took++
	if x, ok := w.log[n.Seq]; !ok || n.X != x {
		return "it handles what wasn't published"
	}
	if !w.cleared(h, n.Seq) {
		return "it handles what those ahead aren't done with"
	}
	return ""
}

// end says what is wrong with how a call ended.
func (w *world) end(h *asked, c call, n api.Note) string {
	w.ends[n.Code]++
	if n.Code == 0 {
		if c.took < 1 || c.took > int64(c.most) || n.Lo != h.next-c.took || n.Seq != h.next-1 || h.done != n.Seq || h.Next() != h.next {
			return "a call that ended well"
		}
		return ""
	}
	last := w.load(w.Cursor(0))
	switch {
	case n.Lo != 0 || n.Seq != 0 || c.took != 0 || h.Next() != h.next:
		return "something of a call that ends by an error"
	case n.Code == api.ErrAlerted:
		if w.load(h.Alert()) != barrier.Alerted {
			return "it wasn't alerted"
		}
	case n.Code == api.ErrIdle && !c.waits:
		if last >= h.next || !c.vain {
			return "idle, though something is there"
		}
	case n.Code == api.ErrGating && !c.waits:
		if last < h.next || !c.vain {
			return "gating, though nothing is claimed, or all was there"
		}
	case n.Code == api.ErrTimeout && c.waits:
		if h.way.Kind != wait.Timed || w.Clock().Now() < c.since+h.way.Time || !c.vain {
			return "too early"
		}
	default:
		return "the error"
	}
	return ""
}

// wrong says what is wrong with how all stand.
func (w *world) wrong() string {
	group := w.Gate(0).Cells()
	for _, h := range w.list {
		parked := w.state(h.Who()) == actor.Parked
		switch {
		case w.load(h.Cell()) != h.done || h.done > h.next-1 || h.Next() > h.done+1:
			return "what it is done with"
		case h.Left() == slices.Contains(group, h.Cell()):
			return "who holds back"
		case !h.Left() && w.load(w.Cursor(0)) > h.done+w.slots:
			return "more are claimed than it lets"
		case h.Pending() != len(h.calls) || h.Waits() != (len(h.calls) > 0 && h.calls[0].waits):
			return "its calls"
		case parked && h.Pending() > 0 && !h.Waits():
			return "it sleeps, and is to do a Poll"
		case parked && h.Waits() && len(w.unsaid) == 0 && w.there(h):
			return "it is left asleep"
		}
	}
	return ""
}

// tell lets somebody's alert be something, and wakes it.
func (w *world) tell(h *asked, sign int64) {
	if w.state(h.Who()) != actor.Halted {
		w.Arena().Store(h.Alert(), sign)
		w.Wake(h.Who())
		h.drains = h.drains || sign == barrier.Drain
	}
}

// leave tells somebody to leave, if it hasn't; it says what was wrong.
func (w *world) leave(h *asked) string {
	halted := w.state(h.Who()) == actor.Halted
	if h.Left() {
		return ""
	}
	n, e := h.Leave()
	want := api.Note{Who: h.Who()}
	if h.leaves = true; halted {
		want.Deed, want.Seq = api.Left, h.next-1
	}
	if e != nil || n != want || halted != h.Left() {
		return "the note of Leave"
	}
	return w.wrong()
}

// stuck says whether somebody does nothing any more, or soon, or is behind one of which that is so.
func (w *world) stuck(h party) bool {
	a, ok := h.(*asked)
	return ok && a.leaves || w.state(h.Who()) == actor.Halted || slices.ContainsFunc(h.behind(), w.stuck)
}

// goOn lets all go on in turn, and have a call if they have none, and something is there; how much is left, and what was wrong.
func (w *world) goOn() (left int, why string) {
	sending := 0
	for i, s := range w.senders {
		why += w.produce(i)
		sending += s.Pending()
	}
	last := w.load(w.Cursor(0))
	for _, h := range w.list {
		why += w.poll(h)
		switch {
		case w.stuck(h):
			if why += w.leave(h); !h.Left() {
				left++
			}
		case h.Next() <= last || h.Pending() > 0:
			left++
			if h.Pending() == 0 {
				why += w.ask(h, 1+int(last%5))
			}
		}
	}
	for _, h := range w.readers {
		why += w.consume(h)
		switch {
		case !w.stuck(h):
			if h.Next() <= last {
				left++
			}
		case !h.Left():
			left++
			h.Leave()
		}
	}
	// Whoever waits for an event is sent one.
	if left > 0 && sending == 0 && slices.ContainsFunc(w.list, func(h *asked) bool { return h.Waits() && !w.stuck(h) }) {
		why += w.send(0, 1)
	}
	return left + sending + len(w.unsaid), why
}

// settle lets all go on, till all calls have returned, and all is handled; it says what was wrong.
func (w *world) settle() string {
	for _, h := range w.list {
		if !h.leaves {
			w.tell(h, barrier.Quiet)
		}
	}
	for range 5000 {
		left, why := w.goOn()
		if why != "" {
			return why
		}
		if left == 0 {
			return w.whole()
		}
	}
	return "not all is handled"
}

// whole says whether all that was published is what was handled.
func (w *world) whole() string {
	last := w.load(w.Cursor(0))
	if int64(len(w.log)) != last+1 {
		return "what is published"
	}
	for _, h := range w.list {
		if h.Pending() > 0 || !h.Left() && h.next != last+1 {
			return "not all is handled, or returns"
		}
	}
	return ""
}

// some is one of many acts, as a generator picks it. Only those from a place on may be told to stop, or leave.
func (w *world) some(t *testing.T, r *rand.Rand, anchors int) string {
	h := w.list[r.IntN(len(w.list))]
	free := slices.Index(w.list, h) >= anchors
	switch what := r.IntN(70); {
	case what < 8:
		return w.send(r.IntN(len(w.senders)), 1+r.Int64N(min(w.slots, 5)))
	case what < 26:
		return w.produce(r.IntN(len(w.senders)))
	case what < 28:
		w.Tick(1 + r.Int64N(3))
	case what == 28 && r.IntN(8) == 0:
		w.tell(h, barrier.Alerted)
	case what == 29 && r.IntN(30) == 0 && free:
		w.tell(h, barrier.Drain)
	case what == 30:
		if !h.leaves {
			w.tell(h, barrier.Quiet)
		}
	case what == 31 && r.IntN(15) == 0 && free:
		return w.leave(h)
	case what == 32 && r.IntN(10) == 0 && len(w.list)+len(w.readers) < 12:
		return w.more(t, r)
	case what > 32 && what < 37:
		return w.ask(h, 1+r.IntN(6))
	case what > 36 && what < 41:
		return w.ask(h, 0)
	case what > 40 && what < 47 && len(w.readers) > 0:
		return w.consume(w.readers[r.IntN(len(w.readers))])
	case what > 46:
		return w.poll(h)
	}
	return w.wrong()
}

// more lets there be one more, behind some of those that go on.
func (w *world) more(t *testing.T, r *rand.Rand) string {
	var ahead []party
	for _, h := range w.list {
		if r.IntN(3) == 0 && !w.stuck(h) {
			ahead = append(ahead, h)
		}
	}
	for _, h := range w.readers {
		if r.IntN(3) == 0 && !w.stuck(h) {
			ahead = append(ahead, h)
		}
	}
	if y := all[r.IntN(len(all))]; r.IntN(3) > 0 {
		w.join(t, y, ahead...)
	} else {
		w.read(t, y, 1+r.IntN(4), ahead...)
	}
	return w.wrong()
}

// P18.2 to P18.6: long runs, that a generator picks, always the same, of those who send, those who ask, and those who handle all, who
// come, stop and leave.
func TestLong(t *testing.T) {
	var deeds [8]int
	ends := map[api.Errno]int{}
	for seed := range uint64(300) {
		r := rand.New(rand.NewPCG(seed, 18))
		k := kinds[seed%2]
		n := 1
		if k == room.Multi {
			n = 1 + int(seed/2)%3
		}
		first := int(seed) % len(all)
		ways := append(slices.Clone(all[first:]), all...)
		w := create(t, 1<<(seed/3%4), k, ways[:n]...)
		// Where many may send the ring might be torn, if nobody held it back: the first one does so all along.
		anchors := int(seed % 2)
		for i := range 1 + int(seed/2)%4 {
			var ahead []party
			for _, h := range w.list[max(0, i-2):i] {
				ahead = append(ahead, h)
			}
			w.join(t, ways[i], ahead...)
		}
		if seed%5 < 2 {
			w.read(t, ways[4], 2, w.list[0])
		}
		for i := range 1500 {
			if why := w.some(t, r, anchors); why != "" {
				t.Fatal(seed, i, why)
			}
		}
		if why := w.settle(); why != "" {
			t.Fatal(seed, why)
		}
		for d, n := range w.deeds {
			deeds[d] += n
		}
		for code, n := range w.ends {
			ends[code] += n
		}
	}
	for _, d := range []api.Deed{api.Silent, api.Handled, api.Moved, api.Returned, api.Left, api.Stopped} {
		if deeds[d] < 100 {
			t.Fatal(d, deeds)
		}
	}
	for _, code := range []api.Errno{0, api.ErrIdle, api.ErrGating, api.ErrAlerted, api.ErrTimeout} {
		if ends[code] < 100 {
			t.Fatal(code, ends)
		}
	}
}

// P18.3 to P18.5: one who sends, one who asks, and one behind it, in all turns of some steps; then all goes on, and nobody is left asleep.
func TestTurns(t *testing.T) {
	const long = 8
	for _, k := range kinds {
		for _, far := range [][3]int{{0, 0, 0}, {0, 3, 3}, {3, 7, 6}, {0, 8, 9}, {9, 5, 4}, {5, 6, 7}} {
			for run := range 6561 {
				w := create(t, 2, k, block)
				a := w.join(t, block)
				b := w.join(t, block, a)
				why := w.send(0, 1) + w.send(0, 2)
				why += w.ask(a, 0) + w.ask(a, 2) + w.ask(a, 0) + w.ask(b, 0) + w.ask(b, 0) + w.ask(b, 2)
				for i, n := range far {
					for range n {
						why += w.turn(a, b, i)
					}
				}
				for x, i := run, 0; i < long; i++ {
					why += w.turn(a, b, x%3)
					x /= 3
				}
				if why += w.settle(); why != "" {
					t.Fatal(k, far, run, why)
				}
				if a.next < 3 || b.next != a.next || a.next != w.load(w.Cursor(0))+1 {
					t.Fatal(k, far, run, a.next, b.next)
				}
			}
		}
	}
}

// turn is a step of one of three.
func (w *world) turn(a, b *asked, i int) string {
	switch i {
	case 0:
		return w.produce(0)
	case 1:
		return w.poll(a)
	}
	return w.poll(b)
}

// P18.3: whatever way it waits, however many it asks for, however many slots there are: it handles what was sent, as it was sent.
func TestSame(t *testing.T) {
	for _, k := range kinds {
		for _, y := range all {
			for _, n := range []int{0, 1, 2, 5, api.MaxBatch} {
				for shift := range 5 {
					w := create(t, 1<<shift, k, block)
					a := w.join(t, y)
					b := w.read(t, block, 3, a)
					why := ""
					for range 8 {
						why += w.send(0, 1)
					}
					for range 5000 {
						if a.Pending() == 0 && a.next < 8 {
							why += w.ask(a, n)
						}
						why += w.produce(0) + w.poll(a) + w.consume(b)
					}
					if why += w.whole(); why != "" || a.next != 8 || b.next != 8 {
						t.Fatal(k, y, n, shift, why, a.next, b.next)
					}
					for seq := range int64(8) {
						if w.log[seq] != (api.Event{Key: seq + 1, Val: -seq - 1}) {
							t.Fatal(w.log)
						}
					}
				}
			}
		}
	}
}

// P18.5: who sleeps is woken by whoever publishes, is done with more, or leaves, and by a call.
func TestAwake(t *testing.T) {
	for _, k := range kinds {
		w := create(t, 2, k, block)
		a := w.join(t, block)
		b := w.join(t, block, a)
		why := w.ask(a, 0) + w.ask(b, 0)
		rest := func() {
			for range 60 {
				why += w.poll(a) + w.poll(b)
			}
		}
		if rest(); why != "" || w.state(a.Who()) != actor.Parked || w.state(b.Who()) != actor.Parked {
			t.Fatal(k, why, w.state(a.Who()), w.state(b.Who()))
		}
		why += w.send(0, 2) + w.send(0, 1)
		for range 60 {
			why += w.produce(0)
		}
		if rest(); why != "" || a.next != 1 || b.next != 1 || w.senders[0].Pending() != 1 {
			t.Fatal(k, why, a.next, b.next, w.senders[0].Pending())
		}
		// The one who sends has no room till all are done with one, and all sleep meanwhile.
		for range 60 {
			why += w.produce(0)
		}
		if why != "" || w.senders[0].Pending() != 0 || w.state(w.senders[0].Who()) != actor.Parked || w.state(a.Who()) != actor.Parked {
			t.Fatal(k, why, w.senders[0].Pending())
		}
		// Those who leave let it go on.
		why += w.send(0, 2) + w.leave(a) + w.leave(b)
		rest()
		for range 60 {
			why += w.produce(0)
		}
		if why != "" || !a.Left() || !b.Left() || w.senders[0].Pending() != 0 || len(w.log) != 5 {
			t.Fatal(k, why, a.Left(), b.Left(), w.senders[0].Pending())
		}
	}
}
