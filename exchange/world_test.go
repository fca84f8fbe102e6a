package exchange_test

import (
	"errors"
	"noria/actor"
	"noria/api"
	"noria/barrier"
	"noria/exchange"
	"noria/pool"
	"noria/room"
	"noria/wait"
	"slices"
	"testing"
)

// call is what somebody was asked for, and what was so at its steps.
type call struct {
	events       []api.Event
	offer, waits bool
	most, from   int
	// How many of its steps there were, and since when it is the first one.
	steps int
	since int64
	// How many of its events are shown, and from which index on.
	shown int
	lo    int64
	// How many it handled, and at which ring.
	took, ring int
	// Too few remained at one of its steps.
	fewer bool
	// Of each ring at one of its steps: its next index was there; it wasn't; it wasn't, though it was claimed; it wasn't claimed.
	there, amiss, gating, unclaimed [api.MaxRings]bool
}

// player is one that takes part, and what is known of it from outside.
type player struct {
	who   int
	kind  exchange.Kind
	way   wait.Way
	batch int
	rings []int
	// Those that it is directly behind, of a pool one worker, and its pool, if it is a worker.
	ahead []*player
	crew  *crew
	calls []call
	// Of each ring the index that it handles next, and what its cell has, or had ahead of Free; whether it left that.
	next, done [api.MaxRings]int64
	left       [api.MaxRings]bool
	// The last index of its calls that ended well, of one who sends.
	last int64
	// Since when it waits, and how many steps it did since it was alerted (-1: it wasn't).
	since int64
	steps int
	// It was told to stop, or to drain, whatever came behind that; it was removed.
	warned, removed bool
}

// crew is a pool: what is handled by it.
type crew struct {
	hands []*player
	by    map[int64]bool
	start int64
}

// world is an exchange, and all that was seen of it.
type world struct {
	*exchange.Exchange
	slots int64
	list  []*player
	// Who published, moved or left at a ring, and hasn't signalled yet.
	unsaid [api.MaxRings]map[int]bool
	// What was published, of each ring index by index.
	log [api.MaxRings]map[int64]api.Event
	key int64
	// How often each deed was seen, and how calls ended, by kinds.
	deeds [5][8]int
	ends  [5]map[api.Errno]int
}

// create is a world with some rings, and nobody in it.
func create(t *testing.T, slots int, l ...room.Kind) *world {
	t.Helper()
	w := &world{Exchange: made(t, slots, l...), slots: int64(slots)}
	for ring := range l {
		w.unsaid[ring], w.log[ring] = map[int]bool{}, map[int64]api.Event{}
	}
	for k := range w.ends {
		w.ends[k] = map[api.Errno]int{}
	}
	return w
}

// join takes in one that was made.
func (w *world) join(a *player) *player {
	a.steps, a.last, a.since = -1, -1, w.Room().Clock().Now()
	for _, ring := range a.rings {
		a.done[ring] = w.cursor(ring)
		a.next[ring] = a.done[ring] + 1
	}
	w.list = append(w.list, a)
	return a
}

// numbers are those of some.
func numbers(l []*player) []int {
	var who []int
	for _, a := range l {
		who = append(who, a.who)
	}
	return who
}

// sender is one who sends more.
func (w *world) sender(t *testing.T, ring int, y wait.Way) *player {
	t.Helper()
	return w.join(&player{who: must(t)(w.Producer(ring, y)), kind: exchange.Producer, way: y, rings: []int{ring}})
}

// reader is a consumer more.
func (w *world) reader(t *testing.T, ring int, y wait.Way, batch int, ahead ...*player) *player {
	t.Helper()
	who := must(t)(w.Consumer(ring, y, batch, numbers(ahead)...))
	return w.join(&player{who: who, kind: exchange.Consumer, way: y, batch: batch, rings: []int{ring}, ahead: ahead})
}

// asker is a poller more.
func (w *world) asker(t *testing.T, ring int, y wait.Way, ahead ...*player) *player {
	t.Helper()
	who := must(t)(w.Poller(ring, y, numbers(ahead)...))
	return w.join(&player{who: who, kind: exchange.Poller, way: y, rings: []int{ring}, ahead: ahead})
}

// gang is a pool more.
func (w *world) gang(t *testing.T, ring int, y wait.Way, n int, ahead ...*player) *crew {
	t.Helper()
	c := &crew{by: map[int64]bool{}, start: w.cursor(ring) + 1}
	for _, who := range some(t)(w.Pool(ring, y, n, numbers(ahead)...)) {
		c.hands = append(c.hands, w.join(&player{who: who, kind: exchange.Worker, way: y, rings: []int{ring}, ahead: ahead, crew: c}))
	}
	return c
}

// chooser is one who asks some rings more.
func (w *world) chooser(t *testing.T, rings ...int) *player {
	t.Helper()
	return w.join(&player{who: must(t)(w.Chooser(rings...)), kind: exchange.Chooser, rings: slices.Clone(rings)})
}

// load is what a cell has: how many steps there were doesn't matter here.
func (w *world) load(id int) int64 {
	v, _ := w.Room().Arena().Load(id)
	return v
}

// cursor is what a ring's cursor's cell has.
func (w *world) cursor(ring int) int64 { return w.load(w.Room().Cursor(ring)) }

// halted says whether somebody does nothing any more.
func (w *world) halted(a *player) bool { return w.State(a.who) == actor.Halted }

// least is that of what those who hold a ring back have, and of what its cursor has.
func (w *world) least(ring int) int64 {
	v := w.cursor(ring)
	for _, id := range w.Room().Gate(ring).Cells() {
		v = min(v, w.load(id))
	}
	return v
}

// remaining is how many may be claimed yet, where nothing is claimed that isn't published, if one claims.
func (w *world) remaining(ring int) int64 {
	return max(0, w.slots-(w.cursor(ring)-w.least(ring)))
}

// published says whether an index is, and all ahead of it that aren't done with.
func (w *world) published(ring int, seq int64) bool {
	hi, e := w.Room().Published(ring, seq)
	return e == nil && hi >= seq
}

// cells are those that somebody has whom others are behind.
func (w *world) cells(a *player) []int {
	if a.crew == nil {
		return []int{w.Cell(a.who, a.rings[0])}
	}
	var ids []int
	for _, h := range a.crew.hands {
		ids = append(ids, w.Cell(h.who, a.rings[0]))
	}
	return ids
}

// cleared says whether those ahead of somebody are done with an index, and have handled it.
func (w *world) cleared(a *player, seq int64) bool {
	for _, y := range a.ahead {
		for _, id := range w.cells(y) {
			if w.load(id) < seq {
				return false
			}
		}
		switch {
		case y.crew == nil && y.next[a.rings[0]] <= seq:
			return false
		case y.crew != nil && seq >= y.crew.start && !y.crew.by[seq]:
			return false
		}
	}
	return true
}

// there says whether the index behind what somebody's cell has is there, at a ring.
func (w *world) there(a *player, ring int) bool {
	if len(a.ahead) > 0 {
		return w.cleared(a, a.done[ring]+1)
	}
	return w.published(ring, a.done[ring]+1)
}

// send lets somebody have a call more, if it takes one; it says what was wrong.
func (w *world) send(a *player, n int, offer bool) string {
	if w.halted(a) || len(a.calls) >= 6 {
		return ""
	}
	c := call{offer: offer, since: w.Room().Clock().Now()}
	for range n {
		w.key++
		c.events = append(c.events, api.Event{Key: w.key, Val: -w.key})
	}
	take := w.Send
	if offer {
		take = w.Offer
	}
	if e := take(a.who, c.events...); e != nil {
		return e.Error()
	}
	a.calls = append(a.calls, c)
	return w.wrong()
}

// ask lets a poller have a call more (0: a Receive), or a chooser, if it takes one; it says what was wrong.
func (w *world) ask(a *player, n int) string {
	if w.halted(a) || len(a.calls) >= 6 {
		return ""
	}
	c := call{most: max(n, 1), waits: n == 0, from: n, since: w.Room().Clock().Now()}
	var e error
	switch {
	case a.kind == exchange.Chooser:
		e = w.Select(a.who, n)
	case n == 0:
		e = w.Receive(a.who)
	default:
		e = w.Poll(a.who, n)
	}
	// It may be about to leave, or stop: that is told by nothing else.
	if errors.Is(e, api.ErrHalted) && len(a.calls) == 0 && (a.warned || a.removed) {
		return ""
	}
	if e != nil {
		return e.Error()
	}
	a.calls = append(a.calls, c)
	return w.wrong()
}

// tell lets somebody's alert be something, if it takes that; it says what was wrong.
func (w *world) tell(a *player, sign int) string {
	e := tells(w.Exchange)[sign](a.who)
	switch {
	case w.halted(a) || a.removed:
		if e == nil {
			return "one that is halted, or removed, is told"
		}
		return ""
	case e != nil:
		return e.Error()
	case sign == barrier.Alerted:
		a.steps = max(a.steps, 0)
	default:
		a.steps = -1
	}
	a.warned = a.warned || sign != barrier.Quiet
	return w.wrong()
}

// remove removes somebody that may be; it says what was wrong.
func (w *world) remove(a *player) string {
	halted := w.halted(a)
	n, e := w.Remove(a.who)
	want := api.Note{Who: a.who}
	switch {
	case halted:
		want.Deed, want.Ring, want.Seq = api.Left, a.rings[0], a.done[a.rings[0]]
		a.left[a.rings[0]] = true
	case a.kind == exchange.Chooser:
		want.Ring = a.rings[0]
	}
	if e != nil || n != want {
		return "the note of Remove"
	}
	if a.removed = true; !halted {
		a.steps = max(a.steps, 0)
	}
	return w.wrong()
}

// followed says whether somebody is behind one.
func (w *world) followed(a *player) bool {
	return slices.ContainsFunc(w.list, func(y *player) bool { return w.Behind(y.who, a.who) })
}

// look sees how all stands at a step of somebody that has a call.
func (w *world) look(a *player) {
	c := &a.calls[0]
	if c.steps++; c.steps == 1 {
		c.since = w.Room().Clock().Now()
	}
	if a.kind == exchange.Producer {
		c.fewer = c.fewer || w.remaining(a.rings[0]) < int64(len(c.events))
		return
	}
	for _, ring := range a.rings {
		there, claimed := w.there(a, ring), w.cursor(ring) > a.done[ring]
		c.there[ring] = c.there[ring] || there
		c.amiss[ring] = c.amiss[ring] || !there
		c.gating[ring] = c.gating[ring] || !there && claimed
		c.unclaimed[ring] = c.unclaimed[ring] || !claimed
	}
}

// step is a step of somebody, if it is ready; it says what was wrong.
func (w *world) step(a *player) string {
	if w.State(a.who) != actor.Ready {
		return ""
	}
	if len(a.calls) > 0 {
		w.look(a)
	}
	if a.steps >= 0 {
		a.steps++
	}
	n, e := w.Step(a.who)
	if e != nil {
		return e.Error()
	}
	w.deeds[a.kind][n.Deed]++
	if n.Who != a.who || !slices.Contains(a.rings, n.Ring) || n.Code != 0 && n.Deed != api.Returned || n.X != (api.Event{}) && n.Deed != api.Handled {
		return "the note"
	}
	if why := w.said(a, n); why != "" {
		return why
	}
	if why := w.seen(a, n); why != "" {
		return why
	}
	return w.late(a) + w.wrong()
}

// said says what is wrong with the step behind that by which somebody published, moved, or left: it signals.
func (w *world) said(a *player, n api.Note) string {
	for ring := range w.Room().Rings() {
		if !w.unsaid[ring][a.who] || n.Deed == api.Shown {
			continue
		}
		delete(w.unsaid[ring], a.who)
		if len(w.Room().Waiting(ring)) > 0 || n.Deed != api.Silent && n.Deed != api.Returned {
			return "it doesn't signal"
		}
	}
	if n.Deed == api.Shown || n.Deed == api.Moved || n.Deed == api.Left {
		w.unsaid[n.Ring][a.who] = true
	}
	return ""
}

// late says whether somebody goes on too long that was told to stop.
func (w *world) late(a *player) string {
	most := int(w.slots)
	for _, y := range a.ahead {
		// Of a pool there is one more, that its workers share.
		if most += len(w.cells(y)); y.crew != nil {
			most++
		}
	}
	switch a.kind {
	case exchange.Consumer:
		most += a.batch + 8
	case exchange.Worker:
		most += 12
	default:
		return ""
	}
	if a.steps > most || a.steps == most && !w.halted(a) {
		return "it doesn't stop"
	}
	return ""
}

// seen says what is wrong with what was seen of somebody.
func (w *world) seen(a *player, n api.Note) string {
	switch n.Deed {
	case api.Silent:
		if n.Lo != 0 || n.Seq != 0 || n.Ring != a.rings[0] {
			return "a silent note"
		}
	case api.Shown:
		return w.show(a, n)
	case api.Handled:
		return w.handle(a, n)
	case api.Moved:
		return w.move(a, n)
	case api.Returned:
		return w.end(a, n)
	case api.Late:
		return w.vain(a, n)
	case api.Left:
		told := a.removed || a.warned && (a.kind == exchange.Worker || a.kind == exchange.Chooser)
		if a.left[n.Ring] || n.Lo != 0 || n.Seq != a.done[n.Ring] || len(a.calls) > 0 || !told {
			return "it left"
		}
		a.left[n.Ring] = true
	case api.Stopped:
		return w.stop(a, n)
	default:
		return "the deed"
	}
	return ""
}

// show says what is wrong with what is shown.
func (w *world) show(a *player, n api.Note) string {
	if a.kind != exchange.Producer || len(a.calls) == 0 {
		return "it publishes without a call"
	}
	c := &a.calls[0]
	if c.shown == 0 {
		c.lo = n.Lo
	}
	many := n.Seq - n.Lo + 1
	if n.Lo != c.lo+int64(c.shown) || many < 1 || many > int64(len(c.events)-c.shown) || w.Room().Many(n.Ring) && many != 1 {
		return "what is shown"
	}
	for seq := n.Lo; seq <= n.Seq; seq++ {
		if _, ok := w.log[n.Ring][seq]; ok {
			return "an index is published twice"
		}
		if x, e := w.Room().Slots(n.Ring).Get(seq); e != nil || x != c.events[c.shown] {
			return "the event that is shown"
		}
		// Nothing is written over: all who hold back are done with what is a size ahead.
		if w.least(n.Ring) < seq-w.slots {
			return "it is published too early"
		}
		w.log[n.Ring][seq] = c.events[c.shown]
		c.shown++
	}
	return ""
}

// handle says what is wrong with what was handled.
func (w *world) handle(a *player, n api.Note) string {
	switch {
	case a.kind == exchange.Producer || n.Lo != n.Seq:
		return "it handles"
	case a.crew != nil && (a.crew.by[n.Seq] || n.Seq < a.crew.start || n.Seq != a.done[n.Ring]+1):
		return "a pool handles an index twice, or another one"
	case a.crew == nil && n.Seq != a.next[n.Ring]:
		return "it handles another index"
	}
	if x, ok := w.log[n.Ring][n.Seq]; !ok || n.X != x {
		return "it handles what wasn't published"
	}
	if !w.cleared(a, n.Seq) {
		return "it handles what those ahead aren't done with"
	}
	a.next[n.Ring], a.since = n.Seq+1, w.Room().Clock().Now()
	if a.crew != nil {
		a.crew.by[n.Seq] = true
	}
	if a.kind == exchange.Poller || a.kind == exchange.Chooser {
		if len(a.calls) == 0 || a.calls[0].took > 0 && a.calls[0].ring != n.Ring {
			return "it handles without a call"
		}
		a.calls[0].took++
		a.calls[0].ring = n.Ring
	}
	return ""
}

// move says what is wrong with what somebody is done with.
func (w *world) move(a *player, n api.Note) string {
	if n.Lo != a.done[n.Ring]+1 || n.Seq < n.Lo {
		return "it moved"
	}
	for seq := n.Lo; seq <= n.Seq && a.crew != nil; seq++ {
		// Another one may have taken it, and not handled it yet: it is held back by that one's cell then.
		taken := slices.ContainsFunc(a.crew.hands, func(h *player) bool { return h != a && !h.left[n.Ring] && h.done[n.Ring] < seq })
		if !a.crew.by[seq] && !taken {
			return "a worker passes over what nobody has"
		}
	}
	if a.crew == nil && n.Seq != a.next[n.Ring]-1 || a.kind == exchange.Consumer && n.Seq-n.Lo >= int64(a.batch) {
		return "how far it moved"
	}
	a.done[n.Ring] = n.Seq
	return ""
}

// vain says what is wrong with whose wait's time is over.
func (w *world) vain(a *player, n api.Note) string {
	handles := a.kind == exchange.Consumer || a.kind == exchange.Worker
	if !handles || a.way.Kind != wait.Timed || w.Room().Clock().Now() < a.since+a.way.Time || n.Lo != 0 || n.Seq != a.done[n.Ring]+1 {
		return "it is late"
	}
	a.since = w.Room().Clock().Now()
	return ""
}

// stop says what is wrong with how somebody stopped.
func (w *world) stop(a *player, n api.Note) string {
	seq := int64(0)
	if a.kind != exchange.Producer && a.kind != exchange.Chooser {
		seq = a.done[n.Ring]
		if a.crew == nil && seq != a.next[n.Ring]-1 {
			return "what it handled it isn't done with"
		}
	}
	if !w.halted(a) || len(a.calls) > 0 || !a.warned && !a.removed || n.Lo != 0 || n.Seq != seq || n.Ring != a.rings[0] {
		return "it stopped"
	}
	return ""
}

// end says what is wrong with how a call ended.
func (w *world) end(a *player, n api.Note) string {
	if len(a.calls) == 0 {
		return "it returned without a call"
	}
	c := a.calls[0]
	a.calls = a.calls[1:]
	w.ends[a.kind][n.Code]++
	// The first step may be that by which it is about to sleep.
	if a.kind == exchange.Chooser && c.steps > 2*len(a.rings)+5 {
		return "a chooser's call takes too long"
	}
	if n.Code != 0 {
		if n.Lo != 0 || n.Seq != 0 || c.shown != 0 || c.took != 0 || n.Ring != a.rings[0] {
			return "something of a call that ends by an error"
		}
		return w.fail(a, c, n)
	}
	switch a.kind {
	case exchange.Producer:
		if c.shown != len(c.events) || n.Lo != c.lo || n.Seq != c.lo+int64(c.shown)-1 || n.Lo <= a.last {
			return "the indexes of a call"
		}
		a.last = n.Seq
	case exchange.Poller:
		if c.took < 1 || c.took > c.most || n.Seq != a.done[n.Ring] || n.Lo != n.Seq-int64(c.took)+1 || a.next[n.Ring] != n.Seq+1 {
			return "a poller's call that ended well"
		}
	default:
		return w.chose(a, c, n)
	}
	return ""
}

// chose says what is wrong with a chooser's call that ended well: its ring is the first one, as they were asked, in which there was something.
func (w *world) chose(a *player, c call, n api.Note) string {
	if c.took != 1 || n.Ring != c.ring || n.Lo != n.Seq || n.Seq != a.done[n.Ring] || a.next[n.Ring] != n.Seq+1 {
		return "a chooser's call that ended well"
	}
	k := len(a.rings)
	for i := range k {
		ring := a.rings[((c.from+i)%k+k)%k]
		switch {
		case ring == c.ring && !c.there[ring]:
			return "it wasn't there"
		case ring == c.ring:
			return ""
		case !c.amiss[ring]:
			return "a ring was passed over"
		}
	}
	return "the ring"
}

// fail says what is wrong with a call that ended by an error.
func (w *world) fail(a *player, c call, n api.Note) string {
	over := a.way.Kind == wait.Timed && w.Room().Clock().Now() >= c.since+a.way.Time
	ok := false
	switch n.Code {
	case api.ErrAlerted:
		ok = w.Told(a.who) == barrier.Alerted
	case api.ErrFull:
		ok = c.offer && c.fewer
	case api.ErrTimeout:
		ok = over && (a.kind == exchange.Producer && !c.offer && c.fewer || a.kind == exchange.Poller && c.waits && c.amiss[a.rings[0]])
	case api.ErrIdle, api.ErrGating:
		ok = w.idle(a, c, n.Code == api.ErrIdle)
	}
	if !ok {
		return "the error by which a call ends"
	}
	return ""
}

// idle says whether a call that doesn't wait may end because nothing is claimed, or because what is claimed isn't there.
func (w *world) idle(a *player, c call, idle bool) bool {
	if a.kind == exchange.Poller {
		ring := a.rings[0]
		return !c.waits && c.amiss[ring] && idle == (w.cursor(ring) <= a.done[ring])
	}
	gating := false
	for _, ring := range a.rings {
		if !c.amiss[ring] || idle && !c.unclaimed[ring] {
			return false
		}
		gating = gating || c.gating[ring]
	}
	return a.kind == exchange.Chooser && (idle || gating)
}

// wrong says what is wrong with how all stand.
func (w *world) wrong() string {
	for _, a := range w.list {
		if w.Pending(a.who) != len(a.calls) {
			return "how many calls there are"
		}
		if w.State(a.who) == actor.Parked {
			if why := w.asleep(a); why != "" {
				return why
			}
		}
		if a.kind == exchange.Producer {
			continue
		}
		left := true
		for _, ring := range a.rings {
			if why := w.stands(a, ring); why != "" {
				return why
			}
			left = left && a.left[ring]
		}
		if w.Left(a.who) != left {
			return "whether it left"
		}
	}
	return ""
}

// stands says what is wrong with how somebody stands at a ring.
func (w *world) stands(a *player, ring int) string {
	id := w.Cell(a.who, ring)
	has, want := w.load(id), a.done[ring]
	held := slices.Contains(w.Room().Gate(ring).Cells(), id)
	if a.left[ring] && a.crew != nil {
		want = pool.Free
	}
	switch {
	case has != want:
		return "what it is done with"
	case a.crew != nil && !held || a.crew == nil && held == a.left[ring]:
		return "who holds back"
	case !a.left[ring] && w.cursor(ring) > has+w.slots:
		return "more are claimed than it lets"
	}
	return ""
}

// asleep says whether somebody is left asleep that could go on.
func (w *world) asleep(a *player) string {
	ring := a.rings[0]
	quiet, calls := len(w.unsaid[ring]) == 0, len(a.calls) > 0
	left := false
	switch a.kind {
	case exchange.Producer:
		left = calls && quiet && w.remaining(ring) >= int64(len(a.calls[0].events))
	case exchange.Consumer, exchange.Worker:
		left = quiet && w.there(a, ring)
	case exchange.Poller:
		left = calls && (!a.calls[0].waits || quiet && w.there(a, ring))
	case exchange.Chooser:
		left = calls
	}
	if left {
		return "somebody is left asleep"
	}
	return ""
}
