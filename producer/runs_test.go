package producer_test

import (
	"math/rand/v2"
	"noria/actor"
	"noria/api"
	"noria/barrier"
	"noria/producer"
	"noria/room"
	"noria/wait"
	"testing"
)

// call is what was sent by one call.
type call struct {
	events []api.Event
	offer  bool
	// How many of its events are shown, from which index on.
	shown int
	lo    int64
	// It was the first one from this time on; fewer remained than it has events at one of its steps.
	since int64
	fewer bool
}

// sent is a producer, and what is known of it from outside.
type sent struct {
	*producer.Producer
	way   wait.Way
	calls []call
	// The last index of its calls that ended well.
	last int64
}

// world is a room with one ring, who sends to it, and who holds it back: the first cells.
type world struct {
	*room.Room
	slots int64
	list  []*sent
	held  int
	// Somebody is done with more, and hasn't signalled yet.
	unsaid bool
	key    int64
	// Who has an index, of calls that ended well, and how calls ended.
	owner map[int64]int
	ends  map[api.Errno]int
}

// create is a world.
func create(t *testing.T, slots int, k room.Kind, held int, ways ...wait.Way) *world {
	t.Helper()
	w := &world{Room: room.New(), slots: int64(slots), held: held, owner: map[int64]int{}, ends: map[api.Errno]int{}}
	for range held {
		w.Arena().Alloc(-1)
	}
	if _, e := w.Ring(slots, k); e != nil {
		t.Fatal(e)
	}
	for id := range held {
		if e := w.Gate(0).Add(id); e != nil {
			t.Fatal(e)
		}
	}
	for _, y := range ways {
		w.list = append(w.list, &sent{Producer: sender(t, w.Room, 0, y), way: y, last: -1})
	}
	return w
}

// load is what a cell has: how many steps there were doesn't matter here.
func (w *world) load(id int) int64 {
	v, _ := w.Arena().Load(id)
	return v
}

// cursor is what the cursor's cell has.
func (w *world) cursor() int64 { return w.load(w.Cursor(0)) }

// least is that of what those who hold back have, and of what the cursor has.
func (w *world) least() int64 {
	v := w.cursor()
	for id := range w.held {
		v = min(v, w.load(id))
	}
	return v
}

// remaining is how many may be claimed yet. (Of a ring of one that holds where nothing is claimed that isn't published.)
func (w *world) remaining() int64 { return max(0, w.slots-(w.cursor()-w.least())) }

// send lets somebody have a call more, if it may; it says what was wrong.
func (w *world) send(i int, n int64, offer bool) string {
	s := w.list[i]
	if w.Actors().State(s.Who()) == actor.Halted || len(s.calls) >= api.MaxCalls {
		return ""
	}
	w.key++
	c := call{events: events(int(n), w.key*100), offer: offer, since: w.Clock().Now()}
	take := s.Send
	if offer {
		take = s.Offer
	}
	if e := take(c.events...); e != nil {
		return e.Error()
	}
	s.calls = append(s.calls, c)
	return ""
}

// more lets somebody who holds back be done with one more, if one is published.
func (w *world) more(id int) {
	done := w.load(id)
	if hi, e := w.Published(0, done+1); e == nil && hi > done {
		w.Arena().Store(id, done+1)
		w.unsaid = true
	}
}

// signal tells of that.
func (w *world) signal() {
	w.Signal(0)
	w.unsaid = false
}

// tell lets somebody's alert be something, and wakes it.
func (w *world) tell(i int, sign int64) {
	w.Arena().Store(w.list[i].Alert(), sign)
	w.Wake(w.list[i].Who())
}

// step is a step of somebody, if it is ready; it says what was wrong.
func (w *world) step(i int) string {
	s := w.list[i]
	if w.Actors().State(s.Who()) != actor.Ready {
		return w.asleep()
	}
	if len(s.calls) > 0 {
		c := &s.calls[0]
		c.fewer = c.fewer || w.remaining() < int64(len(c.events))
	}
	n, e := s.Step()
	if e != nil {
		return e.Error()
	}
	if n.Who != s.Who() || n.Ring != 0 || n.X != (api.Event{}) {
		return "the note"
	}
	if why := w.seen(s, n); why != "" {
		return why
	}
	switch {
	case s.Pending() != len(s.calls) || len(s.calls) > 0 && s.Wants() != len(s.calls[0].events):
		return "the calls"
	case w.cursor()-w.least() > w.slots:
		return "more are claimed than there is room"
	}
	return w.asleep()
}

// asleep says whether somebody is parked who has calls, though enough remain.
func (w *world) asleep() string {
	for _, s := range w.list {
		if !w.unsaid && s.Pending() > 0 && w.Actors().State(s.Who()) == actor.Parked && w.remaining() >= int64(s.Wants()) {
			return "somebody is left asleep"
		}
	}
	return ""
}

// seen says what is wrong with what was seen.
func (w *world) seen(s *sent, n api.Note) string {
	switch n.Deed {
	case api.Silent:
		if n.Lo != 0 || n.Seq != 0 || n.Code != 0 {
			return "a silent note"
		}
	case api.Stopped:
		if len(s.calls) > 0 || w.Actors().State(s.Who()) != actor.Halted || w.load(s.Alert()) != barrier.Drain {
			return "it stopped"
		}
	case api.Shown:
		return w.show(s, n)
	case api.Returned:
		return w.end(s, n)
	default:
		return "the deed"
	}
	return ""
}

// show says what is wrong with what is shown.
func (w *world) show(s *sent, n api.Note) string {
	if len(s.calls) == 0 {
		return "shown without a call"
	}
	c := &s.calls[0]
	if c.shown == 0 {
		c.lo = n.Lo
	}
	many := n.Seq - n.Lo + 1
	switch {
	case n.Code != 0 || n.Lo != c.lo+int64(c.shown) || many < 1 || many > int64(len(c.events)-c.shown):
		return "what is shown"
	case w.Many(0) && many != 1 || !w.Many(0) && many != int64(len(c.events)):
		return "how many are shown in a step"
	}
	for seq := n.Lo; seq <= n.Seq; seq++ {
		x, e := w.Slots(0).Get(seq)
		// Where nobody holds back, an event may be written over.
		if held := w.held > 0 && w.least() < seq; e != nil || held && x != c.events[c.shown] {
			return "the event that is shown"
		}
		if hi, e := w.Published(0, seq); w.held > 0 && (e != nil || hi < seq) {
			return "it isn't published"
		}
		c.shown++
	}
	return ""
}

// end says what is wrong with how a call ended.
func (w *world) end(s *sent, n api.Note) string {
	if len(s.calls) == 0 {
		return "returned without a call"
	}
	c := s.calls[0]
	s.calls = s.calls[1:]
	if len(s.calls) > 0 {
		s.calls[0].since = w.Clock().Now()
	}
	w.ends[n.Code]++
	if n.Code != 0 && (n.Lo != 0 || n.Seq != 0 || c.shown > 0) {
		return "something of a call that ends by an error"
	}
	switch n.Code {
	case 0:
		return w.own(s, c, n)
	case api.ErrFull:
		if !c.offer || !c.fewer {
			return "full, though enough remained at each step"
		}
	case api.ErrTimeout:
		if c.offer || !c.fewer || s.way.Kind != wait.Timed || w.Clock().Now() < c.since+s.way.Time {
			return "too early"
		}
	case api.ErrAlerted:
		if w.load(s.Alert()) != barrier.Alerted {
			return "it wasn't alerted"
		}
	default:
		return "the error"
	}
	return ""
}

// own says what is wrong with the indexes of a call that ended well.
func (w *world) own(s *sent, c call, n api.Note) string {
	if c.shown != len(c.events) || n.Lo != c.lo || n.Seq != c.lo+int64(c.shown)-1 || n.Lo <= s.last {
		return "the indexes of a call"
	}
	for seq := n.Lo; seq <= n.Seq; seq++ {
		if _, ok := w.owner[seq]; ok {
			return "two calls have an index together"
		}
		w.owner[seq] = s.Who()
	}
	s.last = n.Seq
	return ""
}

// wholly says whether all indexes that are claimed are those of calls that ended well.
func (w *world) wholly() bool { return int64(len(w.owner)) == w.cursor()+1 }

// settle lets all go on in turn, those who hold back too, till all calls have ended; it says what was wrong.
func (w *world) settle() string {
	for i := range w.list {
		if w.Actors().State(w.list[i].Who()) != actor.Halted {
			w.tell(i, barrier.Quiet)
		}
	}
	w.signal()
	for range 5000 {
		left := 0
		for i, s := range w.list {
			if why := w.step(i); why != "" {
				return why
			}
			left += s.Pending()
		}
		for id := range w.held {
			w.more(id)
		}
		w.signal()
		if left == 0 {
			return ""
		}
	}
	return "calls don't return"
}

// P15.2, P15.3, P15.4, P15.5, P15.7: two who send, in all turns of some steps, while one who holds back goes on, and tells of it.
func TestTurns(t *testing.T) {
	const long, acts = 7, 4
	for _, ways := range [][]wait.Way{{spin, block}, {block, block}} {
		for _, far := range [][2]int{{0, 0}, {2, 4}, {5, 3}, {9, 14}} {
			for run := range 1 << (2 * long) {
				w := create(t, 2, room.Multi, 1, ways...)
				why := w.send(0, 1, false) + w.send(0, 2, false) + w.send(1, 2, false) + w.send(1, 1, true)
				for i, n := range far {
					for range n {
						why += w.step(i)
					}
				}
				for i := range long {
					why += w.turn(run >> (2 * i) & (acts - 1))
				}
				if why += w.settle(); why != "" || !w.wholly() {
					t.Fatalf("%v %v %o: %s", ways, far, run, why)
				}
			}
		}
	}
}

// turn is one of four acts.
func (w *world) turn(what int) string {
	switch what {
	case 0, 1:
		return w.step(what)
	case 2:
		w.more(0)
	default:
		w.signal()
	}
	return ""
}

// some is one of many acts, as a generator picks it.
func (w *world) some(r *rand.Rand) string {
	i := r.IntN(len(w.list))
	switch what := r.IntN(40); what {
	case 0, 1, 2:
		return w.send(i, 1+r.Int64N(min(w.slots, 5)), false)
	case 3:
		return w.send(i, 1+r.Int64N(min(w.slots, 5)), true)
	case 4, 5, 6, 7, 8:
		if w.held > 0 {
			w.more(r.IntN(w.held))
		}
	case 9, 10:
		w.signal()
	case 11:
		w.Tick(1 + r.Int64N(3))
	case 12:
		if r.IntN(8) == 0 {
			w.tell(i, barrier.Alerted)
		}
	case 13:
		w.tell(i, barrier.Quiet)
	case 14:
		if r.IntN(100) == 0 {
			w.tell(i, barrier.Drain)
		}
	default:
		return w.step(i)
	}
	return ""
}

// ways are those of many who send.
var ways = []wait.Way{block, timed, spin, yield, {Kind: wait.Timed, Time: 20}, never}

// P15.3, P15.4, P15.5, P15.7, P15.8: long runs, that a generator picks, always the same, of one who sends to a ring of one, and of many to one of many.
func TestLong(t *testing.T) {
	ends := map[api.Errno]int{}
	for seed := range uint64(240) {
		r := rand.New(rand.NewPCG(seed, 15))
		k := kinds[seed%2]
		n := 1
		if k == room.Multi {
			n = 1 + int(seed/2)%len(ways)
		}
		first := int(seed) % len(ways)
		w := create(t, 1<<(seed/3%4), k, int(1+seed%3), append(ways[first:], ways...)[:n]...)
		for i := range 1500 {
			if why := w.some(r); why != "" {
				t.Fatal(seed, i, why)
			}
		}
		if why := w.settle(); why != "" || !w.wholly() {
			t.Fatal(seed, why, len(w.owner), w.cursor())
		}
		for code, n := range w.ends {
			ends[code] += n
		}
	}
	for _, code := range []api.Errno{0, api.ErrFull, api.ErrTimeout, api.ErrAlerted} {
		if ends[code] < 100 {
			t.Fatal(code, ends)
		}
	}
}

// P15.3, P15.7: where nobody holds a ring back, it may be torn: calls that end well have indexes for themselves none the less, and all end.
func TestTorn(t *testing.T) {
	for seed := range uint64(60) {
		r := rand.New(rand.NewPCG(seed, 16))
		w := create(t, 1<<(seed%3), room.Multi, 0, ways...)
		for i := range 1000 {
			if why := w.some(r); why != "" {
				t.Fatal(seed, i, why)
			}
		}
		if why := w.settle(); why != "" || !w.wholly() || w.ends[api.ErrFull] > 0 || w.ends[api.ErrTimeout] > 0 {
			t.Fatal(seed, why, w.ends, len(w.owner), w.cursor())
		}
	}
}

// P15.6: who is alerted, and woken, at whatever moment, ends its call within so many of its own steps, and by ErrAlerted if it is yet
// to begin with it.
func TestEnds(t *testing.T) {
	codes := map[api.Errno]int{}
	for seed := range uint64(6 * len(ways)) {
		for far := range 90 {
			r := rand.New(rand.NewPCG(seed, 17))
			k := kinds[seed%2]
			held := int(seed / 2 % 3)
			w := create(t, 4, k, held, ways[int(seed)%len(ways)])
			s := w.list[0]
			why := w.send(0, 3, false) + w.send(0, 4, false) + w.send(0, 2, seed%4 < 2)
			for range far {
				if r.IntN(6) == 0 && held > 0 {
					w.more(r.IntN(held))
				}
				if r.IntN(9) == 0 {
					w.signal()
				}
				why += w.step(0)
			}
			if s.Pending() == 0 {
				continue
			}
			begun := len(s.calls)
			bound := 2*(held+4) + 2*s.Wants() + 4
			w.tell(0, barrier.Alerted)
			for steps := 0; why == "" && len(s.calls) == begun; steps++ {
				if why = w.step(0); steps >= bound {
					why = "too late"
				}
			}
			for len(s.calls) > 0 && why == "" {
				// Each one more is to begin yet: it ends by its first step.
				left, was := len(s.calls), w.ends[api.ErrAlerted]
				if why = w.step(0); len(s.calls) != left-1 || w.ends[api.ErrAlerted] != was+1 {
					why += "not by ErrAlerted at once"
				}
			}
			if why != "" {
				t.Fatal(seed, far, why)
			}
			for code, n := range w.ends {
				codes[code] += n
			}
		}
	}
	if codes[0] == 0 || codes[api.ErrAlerted] == 0 || codes[api.ErrFull] == 0 {
		t.Fatal(codes)
	}
}
