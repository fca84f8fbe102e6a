package pool_test

import (
	"math"
	"math/rand/v2"
	"noria/actor"
	"noria/api"
	"noria/barrier"
	"noria/consumer"
	"noria/pool"
	"noria/producer"
	"noria/room"
	"noria/wait"
	"slices"
	"testing"
)

// sent is a producer, and the events of its calls that haven't ended.
type sent struct {
	*producer.Producer
	calls [][]api.Event
	// How many events of the first call are shown.
	shown int
}

// hand is a worker, and what is known of it from outside.
type hand struct {
	*pool.Worker
	crew *crew
	// What its own cell has, or had ahead of Free, and since when it waits.
	held, since int64
	free        bool
	// How many steps it did since it was told to stop (-1: it wasn't).
	steps int
}

// crew is a pool, and what is known of it from outside.
type crew struct {
	*pool.Pool
	way   wait.Way
	hands []*hand
	ahead []party
	// Its cells, and those of those ahead.
	cells, after []int
	// Who has handled an index, and the last one up to which all are handled.
	by   map[int64]*hand
	upTo int64
}

// reader is a consumer that is behind some.
type reader struct {
	*consumer.Consumer
	ahead []party
	next  int64
}

// party is who may be ahead.
type party interface {
	Cells() []int
	handled(seq int64) bool
}

func (c *crew) handled(seq int64) bool   { return c.by[seq] != nil }
func (r *reader) handled(seq int64) bool { return r.next > seq }
func (r *reader) Cells() []int           { return []int{r.Cell()} }

// world is a room with one ring, who sends to it, and who handles its events.
type world struct {
	*room.Room
	slots   int64
	senders []*sent
	crews   []*crew
	readers []*reader
	// Who published, moved or left, and hasn't signalled yet.
	unsaid map[int]bool
	// What was published, index by index.
	log map[int64]api.Event
	key int64
	// How often each deed was seen of a worker.
	deeds [8]int
}

// create is a world.
func create(t *testing.T, slots int, k room.Kind, ways ...wait.Way) *world {
	t.Helper()
	w := &world{Room: rings(t, slots, k), slots: int64(slots), unsaid: map[int]bool{}, log: map[int64]api.Event{}}
	for _, y := range ways {
		p, e := producer.New(w.Room, 0, y)
		if e != nil {
			t.Fatal(e)
		}
		w.senders = append(w.senders, &sent{Producer: p})
	}
	return w
}

// cells are those of some.
func cells(l []party) []int {
	var ids []int
	for _, x := range l {
		ids = append(ids, x.Cells()...)
	}
	return ids
}

// hire lets there be one pool more, behind some.
func (w *world) hire(t *testing.T, y wait.Way, n int, ahead ...party) *crew {
	t.Helper()
	last := w.load(w.Cursor(0))
	c := &crew{way: y, ahead: ahead, after: cells(ahead), by: map[int64]*hand{}, upTo: last}
	c.Pool = gang(t, w.Room, 0, y, n, c.after...)
	c.cells = c.Cells()
	if c.Start() != last+1 {
		t.Fatal("it starts elsewhere", c.Start(), last)
	}
	for _, x := range c.Workers() {
		c.hands = append(c.hands, &hand{Worker: x, crew: c, held: last, since: w.Clock().Now(), steps: -1})
	}
	w.crews = append(w.crews, c)
	return c
}

// read lets there be one consumer more, behind some.
func (w *world) read(t *testing.T, y wait.Way, batch int, ahead ...party) *reader {
	t.Helper()
	c, e := consumer.New(w.Room, 0, y, batch, cells(ahead)...)
	if e != nil {
		t.Fatal(e)
	}
	r := &reader{Consumer: c, ahead: ahead, next: c.Start()}
	w.readers = append(w.readers, r)
	return r
}

// load is what a cell has: how many steps there were doesn't matter here.
func (w *world) load(id int) int64 {
	v, _ := w.Arena().Load(id)
	return v
}

// state is what an actor does.
func (w *world) state(who int) actor.State { return w.Actors().State(who) }

// send lets somebody have a call more, if it may; it says what was wrong.
func (w *world) send(i int, n int64) string {
	s := w.senders[i]
	if s.Pending() >= 8 {
		return ""
	}
	l := make([]api.Event, n)
	for i := range l {
		w.key++
		l[i] = api.Event{Key: w.key, Val: -w.key}
	}
	s.calls = append(s.calls, l)
	if e := s.Send(l...); e != nil {
		return e.Error()
	}
	return ""
}

// produce is a step of somebody who sends, if it is ready.
func (w *world) produce(i int) string {
	s := w.senders[i]
	if w.state(s.Who()) != actor.Ready {
		return ""
	}
	n, e := s.Step()
	if e != nil {
		return e.Error()
	}
	switch n.Deed {
	case api.Shown:
		for seq := n.Lo; seq <= n.Seq; seq++ {
			w.log[seq] = s.calls[0][s.shown]
			s.shown++
		}
		w.unsaid[s.Who()] = true
	case api.Returned:
		s.calls, s.shown = s.calls[1:], 0
		delete(w.unsaid, s.Who())
	}
	return w.wrong()
}

// consume is a step of a consumer, if it is ready; it says what was wrong.
func (w *world) consume(r *reader) string {
	if w.state(r.Who()) != actor.Ready {
		return ""
	}
	said := w.unsaid[r.Who()]
	n, e := r.Step()
	if e != nil {
		return e.Error()
	}
	if said {
		delete(w.unsaid, r.Who())
	}
	switch n.Deed {
	case api.Moved:
		w.unsaid[r.Who()] = true
	case api.Handled:
		if n.Seq != r.next || n.X != w.log[n.Seq] {
			return "what a consumer handles"
		}
		r.next++
		if !w.cleared(r.ahead, n.Seq) {
			return "a consumer handles what those ahead haven't"
		}
	}
	return w.wrong()
}

// cleared says whether those ahead are done with an index, and have handled it.
func (w *world) cleared(ahead []party, seq int64) bool {
	for _, x := range ahead {
		for _, id := range x.Cells() {
			if w.load(id) < seq {
				return false
			}
		}
		if !x.handled(seq) {
			return false
		}
	}
	return true
}

// labour is a step of a worker, if it is ready; it says what was wrong.
func (w *world) labour(h *hand) string {
	if w.state(h.Who()) != actor.Ready {
		return ""
	}
	if h.steps >= 0 {
		h.steps++
	}
	said := w.unsaid[h.Who()]
	n, e := h.Step()
	if e != nil {
		return e.Error()
	}
	if n.Who != h.Who() || n.Ring != 0 || n.Code != 0 || n.Deed != api.Handled && n.X != (api.Event{}) {
		return "the note"
	}
	w.deeds[n.Deed]++
	if why := w.seen(h, n); why != "" {
		return why
	}
	// Behind what it moved, or left, it signals.
	if said {
		delete(w.unsaid, h.Who())
		if n.Deed != api.Silent || len(w.Waiting(0)) > 0 {
			return "it doesn't signal"
		}
	}
	if h.steps > h.bound(w.slots) || h.steps == h.bound(w.slots) && w.state(h.Who()) != actor.Halted {
		return "it doesn't stop"
	}
	return w.wrong()
}

// bound is within how many steps it is Halted that is told to stop.
func (h *hand) bound(slots int64) int { return len(h.crew.after) + int(slots) + 12 }

// seen says what is wrong with what was seen of a worker.
func (w *world) seen(h *hand, n api.Note) string {
	switch n.Deed {
	case api.Silent:
		if n.Lo != 0 || n.Seq != 0 {
			return "a silent note"
		}
	case api.Handled:
		return w.handle(h, n)
	case api.Moved:
		w.unsaid[h.Who()] = true
		if n.Lo != h.held+1 || n.Seq < n.Lo || n.Seq > w.load(h.crew.cells[0]) {
			return "it moved"
		}
		h.held = n.Seq
	case api.Late:
		if h.crew.way.Kind != wait.Timed || w.Clock().Now() < h.since+h.crew.way.Time || n.Lo != 0 || n.Seq != h.held+1 {
			return "it is late"
		}
		h.since = w.Clock().Now()
	case api.Left:
		w.unsaid[h.Who()] = true
		if h.free = true; n.Lo != 0 || n.Seq != h.held {
			return "it left"
		}
	case api.Stopped:
		if w.state(h.Who()) != actor.Halted || !h.free || n.Lo != 0 || n.Seq != h.held {
			return "it stopped"
		}
	default:
		return "the deed"
	}
	return ""
}

// handle says what is wrong with what was handled.
func (w *world) handle(h *hand, n api.Note) string {
	c := h.crew
	if n.Lo != n.Seq || n.Seq != h.held+1 || n.Seq < c.Start() {
		return "it handles another index"
	}
	if c.handled(n.Seq) {
		return "it is handled twice"
	}
	c.by[n.Seq] = h
	h.since = w.Clock().Now()
	if x, ok := w.log[n.Seq]; !ok || n.X != x {
		return "it handles what wasn't published"
	}
	if !w.cleared(c.ahead, n.Seq) {
		return "it handles what those ahead aren't done with"
	}
	return ""
}

// there says whether the index behind what somebody's own cell has is there.
func (w *world) there(h *hand) bool {
	for _, id := range h.crew.after {
		if w.load(id) <= h.held {
			return false
		}
	}
	if len(h.crew.after) > 0 {
		return true
	}
	hi, e := w.Published(0, h.held+1)
	return e == nil && hi > h.held
}

// wrong says what is wrong with how all stand.
func (w *world) wrong() string {
	group := w.Gate(0).Cells()
	for _, c := range w.crews {
		d, e := c.Done()
		if e != nil || d < c.upTo || w.load(w.Cursor(0)) > d+w.slots {
			return "more are claimed than it lets"
		}
		for ; c.upTo < d; c.upTo++ {
			if !c.handled(c.upTo + 1) {
				return "it is done with what it hasn't handled"
			}
		}
		for i, h := range c.hands {
			has := h.held
			if h.free {
				has = pool.Free
			}
			switch {
			case w.load(h.Cell()) != has || !slices.Contains(group, h.Cell()) || h.Cell() != c.cells[1+i]:
				return "what its own cell has"
			case len(w.unsaid) == 0 && w.state(h.Who()) == actor.Parked && w.there(h):
				return "it is left asleep"
			}
		}
		if !slices.Contains(group, c.cells[0]) {
			return "what all share doesn't hold back"
		}
	}
	return ""
}

// tell lets a worker's alert be something, and wakes it.
func (w *world) tell(h *hand, sign int64) {
	if w.state(h.Who()) == actor.Halted {
		return
	}
	w.Arena().Store(h.Alert(), sign)
	w.Wake(h.Who())
	switch {
	case sign != barrier.Alerted:
		h.steps = -1
	case h.steps < 0:
		h.steps = 0
	}
}

// round lets all go on in turn; how much is left, and what was wrong.
func (w *world) round() (left int, why string) {
	for i, s := range w.senders {
		why += w.produce(i)
		left += s.Pending()
	}
	last := w.load(w.Cursor(0))
	for _, c := range w.crews {
		for _, h := range c.hands {
			why += w.labour(h)
		}
		if d, _ := c.Done(); d != last {
			left++
		}
	}
	for _, r := range w.readers {
		if why += w.consume(r); r.next <= last {
			left++
		}
	}
	return left + len(w.unsaid), why
}

// settle lets all go on, till all is handled; it says what was wrong.
func (w *world) settle() string {
	for _, c := range w.crews {
		for _, h := range c.hands {
			w.tell(h, barrier.Quiet)
		}
	}
	for range 5000 {
		left, why := w.round()
		if why != "" {
			return why
		}
		if left == 0 {
			return w.whole()
		}
	}
	return "not all is handled"
}

// whole says whether all that was published is what was handled.
func (w *world) whole() string {
	last := w.load(w.Cursor(0))
	if int64(len(w.log)) != last+1 {
		return "what is published"
	}
	for _, c := range w.crews {
		if int64(len(c.by)) != last+1-c.Start() || c.upTo != last {
			return "not all is handled by a pool"
		}
	}
	return ""
}

// pick is one of some.
func pick[T any](r *rand.Rand, l []T) T { return l[r.IntN(len(l))] }

// some is one of many acts, as a generator picks it. The first worker of each pool goes on, all others may be told to stop.
func (w *world) some(t *testing.T, r *rand.Rand) string {
	c := pick(r, w.crews)
	h := pick(r, c.hands)
	spare := h != c.hands[0]
	switch what := r.IntN(60); {
	case what < 8:
		return w.send(r.IntN(len(w.senders)), 1+r.Int64N(min(w.slots, 5)))
	case what < 24:
		return w.produce(r.IntN(len(w.senders)))
	case what < 26:
		w.Tick(1 + r.Int64N(3))
	case what == 26 && r.IntN(25) == 0 && spare:
		w.tell(h, barrier.Alerted)
	case what == 27 && r.IntN(30) == 0 && spare:
		w.tell(h, barrier.Drain)
	case what == 28:
		w.tell(h, barrier.Quiet)
	case what == 29 && r.IntN(20) == 0 && len(w.crews) < 4:
		w.hire(t, pick(r, all), 1+r.IntN(3), w.before(r)...)
	case what > 29 && what < 36 && len(w.readers) > 0:
		return w.consume(pick(r, w.readers))
	case what > 35:
		return w.labour(h)
	}
	return w.wrong()
}

// before are some of those that are there.
func (w *world) before(r *rand.Rand) []party {
	var l []party
	for _, c := range w.crews {
		if r.IntN(3) == 0 {
			l = append(l, c)
		}
	}
	for _, x := range w.readers {
		if r.IntN(3) == 0 {
			l = append(l, x)
		}
	}
	return l
}

// P17.2 to P17.7: long runs, that a generator picks, always the same, of those who send, of pools that come, whose workers stop, and of
// consumers ahead of them, and behind.
func TestLong(t *testing.T) {
	var deeds [8]int
	shared := 0
	for seed := range uint64(240) {
		r := rand.New(rand.NewPCG(seed, 17))
		k := kinds[seed%2]
		n := 1
		if k == room.Multi {
			n = 1 + int(seed/2)%3
		}
		first := int(seed) % len(all)
		ways := append(slices.Clone(all[first:]), all...)
		w := create(t, 1<<(seed/3%4), k, ways[:n]...)
		if seed%3 == 0 {
			w.read(t, ways[3], 2)
		}
		w.hire(t, ways[0], 1+int(seed/2%5), w.before(r)...)
		for i := range int(seed / 4 % 3) {
			w.read(t, ways[i+1], 1+i, w.before(r)...)
		}
		for i := range 1500 {
			if why := w.some(t, r); why != "" {
				t.Fatal(seed, i, why)
			}
		}
		if why := w.settle(); why != "" {
			t.Fatal(seed, why)
		}
		for d, n := range w.deeds {
			deeds[d] += n
		}
		for _, h := range w.crews[0].by {
			if h != w.crews[0].hands[0] {
				shared++
			}
		}
	}
	for _, d := range []api.Deed{api.Silent, api.Handled, api.Moved, api.Late, api.Left, api.Stopped} {
		if deeds[d] < 100 {
			t.Fatal(d, deeds)
		}
	}
	if shared < 1000 {
		t.Fatal(shared, "were handled by others than the first")
	}
}

// P17.3 to P17.5, P17.7: one who sends, two workers, and one behind both, in all turns of some steps; then all goes on, and nobody is left asleep.
func TestTurns(t *testing.T) {
	const long = 6
	for _, k := range kinds {
		for _, far := range [][4]int{{0, 0, 0, 0}, {5, 0, 0, 0}, {5, 4, 4, 2}, {12, 7, 4, 1}, {14, 12, 12, 2}, {0, 7, 7, 5}, {3, 6, 7, 5}} {
			for run := range 1 << (2 * long) {
				w := create(t, 2, k, block)
				c := w.hire(t, block, 2)
				b := w.read(t, block, 1, c)
				why := w.send(0, 1) + w.send(0, 2)
				for i, n := range far {
					for range n {
						why += w.turn(c, b, i)
					}
				}
				for x, i := run, 0; i < long; i++ {
					why += w.turn(c, b, x%4)
					x /= 4
				}
				if why += w.settle(); why != "" {
					t.Fatal(k, far, run, why)
				}
				if len(c.by) != 3 || b.next != 3 {
					t.Fatal(k, far, run, len(c.by), b.next)
				}
			}
		}
	}
}

// turn is a step of one of four.
func (w *world) turn(c *crew, b *reader, i int) string {
	switch i {
	case 0:
		return w.produce(0)
	case 3:
		return w.consume(b)
	}
	return w.labour(c.hands[i-1])
}

// P17.3, P17.4: three workers, in all turns of some steps, when all that they may take is published.
func TestShares(t *testing.T) {
	const long = 8
	for _, k := range kinds {
		for _, far := range []int{0, 3, 5} {
			for run := range 6561 {
				w := create(t, 4, k, spin)
				c := w.hire(t, spin, 3)
				why := w.send(0, 4)
				for range 12 {
					why += w.produce(0)
				}
				for range far {
					for _, h := range c.hands {
						why += w.labour(h)
					}
				}
				for x, i := run, 0; i < long; i++ {
					why += w.labour(c.hands[x%3])
					x /= 3
				}
				if why += w.settle(); why != "" || len(c.by) != 4 {
					t.Fatal(k, far, run, why, len(c.by))
				}
			}
		}
	}
}

// P17.6: a worker that is alerted, and woken, at whatever moment, is Halted within so many of its own steps, whether others go on
// meanwhile or not, and what it took it has handled.
func TestStops(t *testing.T) {
	longest := math.MinInt
	for seed := range uint64(40) {
		for far := range 60 {
			r := rand.New(rand.NewPCG(seed, 18))
			w := create(t, 1<<(seed/2%4), kinds[seed%2], spin)
			var ahead []party
			for range seed / 8 % 3 {
				ahead = append(ahead, w.read(t, spin, 8))
			}
			c := w.hire(t, all[seed%5], 2, ahead...)
			why := w.send(0, min(w.slots, 5)) + w.send(0, min(w.slots, 3)) + w.send(0, w.slots)
			for range 4 * far {
				if r.IntN(3) > 0 {
					why += w.produce(0)
				}
				for _, x := range w.readers {
					why += w.consume(x)
				}
				why += w.labour(c.hands[r.IntN(2)])
			}
			h := c.hands[far%2]
			w.tell(h, barrier.Alerted)
			for i := 0; why == "" && i < 200; i++ {
				if seed%3 == 0 {
					why += w.produce(0)
				}
				if seed%3 == 1 {
					why += w.labour(c.hands[1-far%2])
				}
				why += w.labour(h)
			}
			if why != "" || w.state(h.Who()) != actor.Halted || !h.free {
				t.Fatal(seed, far, why, h.free)
			}
			longest = max(longest, h.steps-h.bound(w.slots))
			// The other one handles the rest.
			for range 40 {
				w.Signal(0)
				for range 9 {
					_, y := w.round()
					why += y
				}
			}
			if why != "" || w.whole() != "" {
				t.Fatal(seed, far, why, w.whole())
			}
		}
	}
	if longest < -9 {
		t.Fatal(longest, "is far from the bound")
	}
}

// P17.6: the longest way to stop: who is to read all slots, and takes an index then.
func TestLongest(t *testing.T) {
	for slots := 1; slots <= 64; slots *= 2 {
		w := create(t, slots, room.Multi, spin)
		h := w.hire(t, spin, 1).hands[0]
		why := w.send(0, int64(slots))
		for range 200 {
			why += w.produce(0)
		}
		why += w.labour(h) + w.labour(h)
		w.tell(h, barrier.Alerted)
		for range 200 {
			why += w.labour(h)
		}
		// The cursor, the slots, swap, take, work, mine, signal, the alert, free, bell, stop.
		if want := slots + 10; why != "" || h.steps != want || !h.crew.handled(0) || len(h.crew.by) != 1 {
			t.Fatal(slots, why, h.steps, want, len(h.crew.by))
		}
	}
}

// P17.3: whatever way they wait, however many they are, however many slots there are: what was sent is handled, each once.
func TestSame(t *testing.T) {
	for _, k := range kinds {
		for _, y := range all {
			for n := 1; n <= api.MaxPool; n += 3 {
				for shift := range 5 {
					w := create(t, 1<<shift, k, block)
					a := w.hire(t, y, n)
					b := w.hire(t, block, 3, a)
					why := ""
					for range 8 {
						why += w.send(0, 1)
					}
					if why += w.settle(); why != "" || len(a.by) != 8 || len(b.by) != 8 {
						t.Fatal(k, y, n, shift, why, len(a.by), len(b.by))
					}
					for seq := range int64(8) {
						if w.log[seq] != (api.Event{Key: seq + 1, Val: -seq - 1}) {
							t.Fatal(w.log)
						}
					}
				}
			}
		}
	}
}

// P17.4, P17.7: when all workers are free, what all share still holds the ring back, and those behind go no further; one that goes on later
// holds back by its own cell.
func TestAllFree(t *testing.T) {
	for _, k := range kinds {
		w := create(t, 2, k, block)
		c := w.hire(t, block, 2)
		b := w.read(t, block, 1, c)
		why := w.send(0, 1) + w.send(0, 2) + w.send(0, 1)
		for c.upTo < 0 && why == "" {
			_, why = w.round()
		}
		for _, h := range c.hands {
			w.tell(h, barrier.Alerted)
		}
		for range 60 {
			_, y := w.round()
			why += y
		}
		d, _ := c.Done()
		if why != "" || d != w.load(c.Cells()[0]) || d >= 3 || !c.hands[0].free || !c.hands[1].free {
			t.Fatal(k, why, d)
		}
		if b.next != d+1 || w.load(w.Cursor(0)) > d+2 || w.senders[0].Pending() == 0 {
			t.Fatal(k, b.next, d, w.load(w.Cursor(0)))
		}
	}
}
