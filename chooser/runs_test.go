package chooser_test

import (
	"errors"
	"math/rand/v2"
	"noria/actor"
	"noria/api"
	"noria/barrier"
	"noria/chooser"
	"noria/producer"
	"noria/room"
	"noria/wait"
	"slices"
	"testing"
)

// sent is a producer, and the events of its calls that haven't ended.
type sent struct {
	*producer.Producer
	calls [][]api.Event
	// How many events of the first call are shown.
	shown int
}

// call is what a chooser was asked for, and what was so at one of its steps, of each ring.
type call struct {
	from, steps int
	// It came when the chooser was about to sleep.
	late bool
	// The next index was there; it wasn't; it wasn't, though it was claimed; it wasn't claimed.
	there, amiss, gating, unclaimed [api.MaxRings]bool
	// The ring of the event that it handled, if it did.
	took bool
	ring int
}

// asked is a chooser, and what is known of it from outside.
type asked struct {
	*chooser.Chooser
	list  []int
	calls []call
	// Of each ring the index that it handles next, and what its cell has; whether it left that.
	next, done [api.MaxRings]int64
	left       [api.MaxRings]bool
	// It was told to leave, or does; it was told to drain.
	leaves, drains bool
}

// world is a room with some rings, who sends to them, and who asks them.
type world struct {
	*room.Room
	slots   int64
	senders []*sent
	list    []*asked
	// What was published, of each ring index by index.
	log [api.MaxRings]map[int64]api.Event
	key int64
	// How often each deed was seen, and how calls ended.
	deeds [8]int
	ends  map[api.Errno]int
}

// block is how those wait who send.
var block = wait.Way{Kind: wait.Block}

// create is a world: to each ring of one there sends one, to each of many two.
func create(t *testing.T, slots int, are ...room.Kind) *world {
	t.Helper()
	w := &world{Room: rings(t, slots, are...), slots: int64(slots), ends: map[api.Errno]int{}}
	for ring, k := range are {
		w.log[ring] = map[int64]api.Event{}
		for range 1 + k {
			p, e := producer.New(w.Room, ring, block)
			if e != nil {
				t.Fatal(e)
			}
			w.senders = append(w.senders, &sent{Producer: p})
		}
	}
	return w
}

// join lets there be one chooser more.
func (w *world) join(t *testing.T, list ...int) *asked {
	t.Helper()
	h := &asked{Chooser: asker(t, w.Room, list...), list: list}
	for _, ring := range list {
		h.done[ring] = w.cursor(ring)
		h.next[ring] = h.done[ring] + 1
	}
	w.list = append(w.list, h)
	return h
}

// load is what a cell has: how many steps there were doesn't matter here.
func (w *world) load(id int) int64 {
	v, _ := w.Arena().Load(id)
	return v
}

// cursor is what a ring's cursor's cell has.
func (w *world) cursor(ring int) int64 { return w.load(w.Cursor(ring)) }

// state is what an actor does.
func (w *world) state(who int) actor.State { return w.Actors().State(who) }

// send lets somebody have a call more, if it may; it says what was wrong.
func (w *world) send(i int, n int64) string {
	s := w.senders[i]
	if s.Pending() >= 8 {
		return ""
	}
	l := make([]api.Event, n)
	for i := range l {
		w.key++
		l[i] = api.Event{Key: w.key, Val: -w.key}
	}
	s.calls = append(s.calls, l)
	if e := s.Send(l...); e != nil {
		return e.Error()
	}
	return ""
}

// produce is a step of somebody who sends, if it is ready.
func (w *world) produce(i int) string {
	s := w.senders[i]
	if w.state(s.Who()) != actor.Ready {
		return ""
	}
	n, e := s.Step()
	if e != nil {
		return e.Error()
	}
	switch n.Deed {
	case api.Shown:
		for seq := n.Lo; seq <= n.Seq; seq++ {
			w.log[s.Ring()][seq] = s.calls[0][s.shown]
			s.shown++
		}
	case api.Returned:
		s.calls, s.shown = s.calls[1:], 0
	}
	return w.wrong()
}

// ask lets a chooser have a call more, if it takes one; it says what was wrong.
func (w *world) ask(h *asked, from int) string {
	if w.state(h.Who()) == actor.Halted || h.leaves || len(h.calls) >= 6 {
		return ""
	}
	e := h.Select(from)
	// It may be about to leave: that is told by nothing else.
	if errors.Is(e, api.ErrHalted) && len(h.calls) == 0 && h.drains {
		return ""
	}
	if e != nil {
		return e.Error()
	}
	h.calls = append(h.calls, call{from: from, late: len(h.calls) == 0})
	return w.wrong()
}

// look sees how all rings stand at a step of a call.
func (w *world) look(h *asked) {
	c := &h.calls[0]
	c.steps++
	for _, ring := range h.list {
		hi, e := w.Published(ring, h.Next(ring))
		there := e == nil && hi >= h.Next(ring)
		claimed := w.cursor(ring) >= h.Next(ring)
		c.there[ring] = c.there[ring] || there
		c.amiss[ring] = c.amiss[ring] || !there
		c.gating[ring] = c.gating[ring] || !there && claimed
		c.unclaimed[ring] = c.unclaimed[ring] || !claimed
	}
}

// choose is a step of a chooser, if it is ready; it says what was wrong.
func (w *world) choose(h *asked) string {
	if w.state(h.Who()) != actor.Ready {
		return ""
	}
	if len(h.calls) > 0 {
		w.look(h)
	}
	n, e := h.Step()
	if e != nil {
		return e.Error()
	}
	if n.Who != h.Who() || n.Code != 0 && n.Deed != api.Returned || n.X != (api.Event{}) && n.Deed != api.Handled {
		return "the note"
	}
	w.deeds[n.Deed]++
	if why := w.seen(h, n); why != "" {
		return why
	}
	return w.wrong()
}

// seen says what is wrong with what was seen of a chooser.
func (w *world) seen(h *asked, n api.Note) string {
	switch n.Deed {
	case api.Silent:
		if n.Ring != h.list[0] || n.Lo != 0 || n.Seq != 0 {
			return "a silent note"
		}
	case api.Handled:
		return w.handle(h, n)
	case api.Moved:
		if len(h.calls) == 0 || !h.calls[0].took || n.Ring != h.calls[0].ring || n.Lo != n.Seq || n.Seq != h.next[n.Ring]-1 {
			return "it moved"
		}
		h.done[n.Ring] = n.Seq
	case api.Returned:
		if len(h.calls) == 0 {
			return "it returned without a call"
		}
		c := h.calls[0]
		if h.calls = h.calls[1:]; len(w.Waiting(n.Ring)) > 0 && n.Code == 0 {
			return "it doesn't signal"
		}
		return w.end(h, c, n)
	case api.Left:
		if len(h.calls) > 0 || n.Lo != 0 || n.Seq != h.next[n.Ring]-1 || h.left[n.Ring] {
			return "it left"
		}
		h.leaves, h.left[n.Ring] = true, true
	case api.Stopped:
		if w.state(h.Who()) != actor.Halted || !h.Left() || n.Ring != h.list[0] || n.Lo != 0 || n.Seq != 0 {
			return "it stopped"
		}
	default:
		return "the deed"
	}
	return ""
}

// handle says what is wrong with what was handled.
func (w *world) handle(h *asked, n api.Note) string {
	if len(h.calls) == 0 || h.calls[0].took || !slices.Contains(h.list, n.Ring) || n.Lo != n.Seq || n.Seq != h.next[n.Ring] {
		return "it handles another index"
	}
	h.next[n.Ring]++
	h.calls[0].took, h.calls[0].ring = true, n.Ring
	if x, ok := w.log[n.Ring][n.Seq]; !ok || n.X != x {
		return "it handles what wasn't published"
	}
	return ""
}

// end says what is wrong with how a call ended.
func (w *world) end(h *asked, c call, n api.Note) string {
	w.ends[n.Code]++
	k := len(h.list)
	most := 2*k + 4
	if c.late {
		most++
	}
	if c.steps > most {
		return "too late"
	}
	if n.Code == 0 {
		return w.well(h, c, n)
	}
	if n.Ring != h.list[0] || n.Lo != 0 || n.Seq != 0 || c.took {
		return "something of a call that ends by an error"
	}
	gating := false
	for _, ring := range h.list {
		if n.Code != api.ErrAlerted && (!c.amiss[ring] || n.Code == api.ErrIdle && !c.unclaimed[ring]) {
			return "a ring wasn't asked, or was gating"
		}
		gating = gating || c.gating[ring]
	}
	switch n.Code {
	case api.ErrIdle:
	case api.ErrGating:
		if !gating {
			return "none was gating"
		}
	case api.ErrAlerted:
		if w.load(h.Alert()) != barrier.Alerted || c.steps > 2 || c.steps > 1 && !c.late {
			return "it wasn't alerted when it began"
		}
	default:
		return "the error"
	}
	return ""
}

// well says what is wrong with a call that ended well: its ring is the first one, as they were asked, in which there was something.
func (w *world) well(h *asked, c call, n api.Note) string {
	if !c.took || n.Ring != c.ring || n.Lo != n.Seq || n.Seq != h.next[c.ring]-1 || h.done[c.ring] != n.Seq {
		return "a call that ended well"
	}
	k := len(h.list)
	for i := range k {
		ring := h.list[((c.from+i)%k+k)%k]
		if ring == c.ring {
			if !c.there[ring] {
				return "it wasn't there"
			}
			return ""
		}
		if !c.amiss[ring] {
			return "a ring was passed over"
		}
	}
	return "the ring"
}

// wrong says what is wrong with how all stand.
func (w *world) wrong() string {
	for _, h := range w.list {
		if h.Pending() != len(h.calls) || h.Pending() > 0 && w.state(h.Who()) == actor.Parked {
			return "it sleeps, and has a call"
		}
		left := true
		for _, ring := range h.list {
			done := w.load(h.Cell(ring))
			switch {
			case done != h.done[ring] || done > h.next[ring]-1 || h.Next(ring) > done+1 || h.Next(ring) < h.next[ring]-1:
				return "what it is done with"
			case h.left[ring] == slices.Contains(w.Gate(ring).Cells(), h.Cell(ring)):
				return "who holds back"
			case !h.left[ring] && w.cursor(ring) > done+w.slots:
				return "more are claimed than it lets"
			}
			left = left && h.left[ring]
		}
		if h.Left() != left {
			return "whether it left"
		}
	}
	return ""
}

// tell lets somebody's alert be something, and wakes it.
func (w *world) tell(h *asked, sign int64) {
	if w.state(h.Who()) != actor.Halted {
		w.Arena().Store(h.Alert(), sign)
		w.Wake(h.Who())
		h.drains = h.drains || sign == barrier.Drain
	}
}

// leave tells somebody to leave, if it hasn't; it says what was wrong.
func (w *world) leave(h *asked) string {
	if w.state(h.Who()) == actor.Halted {
		return ""
	}
	if h.leaves = true; h.Leave() != nil {
		return "it doesn't leave"
	}
	return w.wrong()
}

// goOn lets all go on in turn, and have a call if they have none, and something is there; how much is left, and what was wrong.
func (w *world) goOn() (left int, why string) {
	for i, s := range w.senders {
		why += w.produce(i)
		left += s.Pending()
	}
	for _, h := range w.list {
		why += w.choose(h)
		if h.leaves {
			if w.state(h.Who()) != actor.Halted {
				left++
			}
			continue
		}
		left += h.Pending()
		for i, ring := range h.list {
			if h.Next(ring) <= w.cursor(ring) {
				left++
				if h.Pending() == 0 {
					why += w.ask(h, i)
				}
			}
		}
	}
	return left, why
}

// settle lets all go on, till all calls have returned, and all is handled; it says what was wrong.
func (w *world) settle() string {
	for _, h := range w.list {
		if !h.leaves {
			w.tell(h, barrier.Quiet)
		}
	}
	for range 9000 {
		left, why := w.goOn()
		if why != "" {
			return why
		}
		if left == 0 {
			return w.whole()
		}
	}
	return "not all is handled"
}

// whole says whether all that was published is what was handled.
func (w *world) whole() string {
	for ring := range w.Rings() {
		last := w.cursor(ring)
		if int64(len(w.log[ring])) != last+1 {
			return "what is published"
		}
		for _, h := range w.list {
			if slices.Contains(h.list, ring) && !h.left[ring] && h.next[ring] != last+1 {
				return "not all is handled"
			}
		}
	}
	return ""
}

// some is one of many acts, as a generator picks it. All but the first one may be told to leave.
func (w *world) some(t *testing.T, r *rand.Rand) string {
	h := w.list[r.IntN(len(w.list))]
	spare := h != w.list[0]
	switch what := r.IntN(70); {
	case what < 8:
		return w.send(r.IntN(len(w.senders)), 1+r.Int64N(min(w.slots, 5)))
	case what < 34:
		return w.produce(r.IntN(len(w.senders)))
	case what == 34 && r.IntN(6) == 0:
		w.tell(h, barrier.Alerted)
	case what == 35 && r.IntN(60) == 0 && spare:
		w.tell(h, barrier.Drain)
	case what == 36 && !h.leaves:
		w.tell(h, barrier.Quiet)
	case what == 37 && r.IntN(25) == 0 && spare:
		return w.leave(h)
	case what == 38 && r.IntN(10) == 0 && len(w.list) < 8:
		l := r.Perm(w.Rings())
		w.join(t, l[:1+r.IntN(len(l))]...)
	case what > 38 && what < 46:
		return w.ask(h, r.IntN(20)-10)
	case what > 45:
		return w.choose(h)
	}
	return w.wrong()
}

// P19.2 to P19.6: long runs, that a generator picks, always the same, of those who send, and those who ask, who come and leave.
func TestLong(t *testing.T) {
	var deeds [8]int
	ends := map[api.Errno]int{}
	for seed := range uint64(200) {
		r := rand.New(rand.NewPCG(seed, 19))
		var are []room.Kind
		for i := range 1 + seed/4%5 {
			are = append(are, kinds[seed>>(i%2)%2])
		}
		w := create(t, 1<<(seed/3%4), are...)
		// Where many send the ring might be torn, if nobody held it back: the first one does so all along.
		w.join(t, r.Perm(len(are))...)
		for i := range 2500 {
			if why := w.some(t, r); why != "" {
				t.Fatal(seed, i, why)
			}
		}
		if why := w.settle(); why != "" {
			t.Fatal(seed, why)
		}
		for d, n := range w.deeds {
			deeds[d] += n
		}
		for code, n := range w.ends {
			ends[code] += n
		}
	}
	for _, d := range []api.Deed{api.Silent, api.Handled, api.Moved, api.Returned, api.Left, api.Stopped} {
		if deeds[d] < 100 {
			t.Fatal(d, deeds)
		}
	}
	for _, code := range []api.Errno{0, api.ErrIdle, api.ErrGating, api.ErrAlerted} {
		if ends[code] < 100 {
			t.Fatal(code, ends)
		}
	}
}

// P19.3 to P19.6: one who sends to a ring of one, one who sends to one of many, and one who asks both, in all turns of some steps; then all
// goes on.
func TestTurns(t *testing.T) {
	const long = 8
	for _, list := range [][]int{{0, 1}, {1, 0}} {
		for _, far := range [][3]int{{0, 0, 0}, {3, 3, 2}, {2, 5, 2}, {6, 7, 4}, {9, 9, 6}} {
			for run := range 6561 {
				w := create(t, 2, room.Single, room.Multi)
				h := w.join(t, list...)
				why := w.send(0, 1) + w.send(0, 2) + w.send(1, 2) + w.send(1, 1) + w.ask(h, 0) + w.ask(h, 1) + w.ask(h, 1) + w.ask(h, 0)
				turn := func(i int) string {
					if i == 2 {
						return w.choose(h)
					}
					return w.produce(i)
				}
				for i, n := range far {
					for range n {
						why += turn(i)
					}
				}
				for x, i := run, 0; i < long; i++ {
					why += turn(x % 3)
					x /= 3
				}
				if why += w.settle(); why != "" || h.next[0] != 3 || h.next[1] != 3 {
					t.Fatal(list, far, run, why, h.next)
				}
			}
		}
	}
}

// P19.5: the longest call: each ring is gating, but for the last one, in which there is something.
func TestLongest(t *testing.T) {
	for k := 1; k <= api.MaxRings; k++ {
		r := rings(t, 2, slices.Repeat(kinds[1:], k)...)
		var list []int
		for ring := range k {
			list = append(list, ring)
		}
		c := asker(t, r, list...)
		for ring := range k {
			if _, e := claim(r, ring, 1); e != nil {
				t.Fatal(e)
			}
		}
		r.Show(k-1, 0, 0)
		c.Select(0)
		steps := 0
		for c.Pending() > 0 {
			if _, e := c.Step(); e != nil {
				t.Fatal(e)
			}
			steps++
		}
		if steps != 2*k+4 || c.Next(k-1) != 1 {
			t.Fatal(k, steps, c.Next(k-1))
		}
	}
}

// P19.3: in whatever order they are named, and however many slots there are: of each ring it handles what was sent, as it was sent.
func TestSame(t *testing.T) {
	for shift := range 5 {
		for _, list := range [][]int{{0, 1, 2}, {2, 0, 1}, {1, 2}, {2}} {
			w := create(t, 1<<shift, room.Multi, room.Single, room.Multi)
			// Nobody else holds back those rings that aren't asked.
			h := w.join(t, list...)
			why := ""
			for range 8 {
				for i, s := range w.senders {
					if slices.Contains(list, s.Ring()) && i != 0 && i != 3 {
						why += w.send(i, 1)
					}
				}
			}
			if why += w.settle(); why != "" {
				t.Fatal(shift, list, why)
			}
			for _, ring := range list {
				var last int64
				for seq := range int64(8) {
					x, ok := w.log[ring][seq]
					if !ok || x.Key <= last || h.next[ring] != 8 {
						t.Fatal(shift, list, ring, w.log[ring], h.next)
					}
					last = x.Key
				}
			}
		}
	}
}
