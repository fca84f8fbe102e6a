package exchange_test

import (
	"math/rand/v2"
	"noria/actor"
	"noria/api"
	"noria/barrier"
	"noria/chooser"
	"noria/consumer"
	"noria/exchange"
	"noria/fault"
	"noria/poller"
	"noria/pool"
	"noria/producer"
	"noria/room"
	"noria/wait"
	"slices"
	"testing"
)

// part is an actor that was made without the exchange: what it is, and what the exchange is to say of it.
type part struct {
	kind  exchange.Kind
	rings []int
	// The numbers of those that it is directly behind.
	after    []int
	removed  bool
	producer *producer.Producer
	consumer *consumer.Consumer
	pool     *pool.Pool
	worker   *pool.Worker
	poller   *poller.Poller
	chooser  *chooser.Chooser
}

// twin is an exchange, and a room in which the same is done by the layers' own calls.
type twin struct {
	*exchange.Exchange
	r     *room.Room
	parts []*part
	// How often each call was refused with which error, and how often it was done.
	ends map[string]map[api.Errno]int
	key  int64
}

// twins is a twin without a ring.
func twins() *twin {
	return &twin{Exchange: exchange.New(), r: room.New(), ends: map[string]map[api.Errno]int{}}
}

// part is an actor, if it is there.
func (w *twin) part(who int) *part {
	if who < 0 || who >= len(w.parts) {
		return nil
	}
	return w.parts[who]
}

// state is an actor's state, as the room has it.
func (w *twin) state(who int) actor.State { return w.r.Actors().State(who) }

// behind says whether one is directly behind another one.
func (w *twin) behind(who, ahead int) bool {
	return !w.parts[who].removed && slices.Contains(w.parts[who].after, ahead)
}

// reach says whether one is behind another one.
func (w *twin) reach(who, ahead int) bool {
	if w.part(who) == nil {
		return false
	}
	for y := range w.parts {
		if w.behind(who, y) && (y == ahead || w.reach(y, ahead)) {
			return true
		}
	}
	return false
}

// ended counts how a call ended, and says whether that is so of both.
func (w *twin) ended(op string, want, got error) string {
	code := fault.Code(want)
	if w.ends[op] == nil {
		w.ends[op] = map[api.Errno]int{}
	}
	w.ends[op][code]++
	if fault.Code(got) != code {
		return op + ": another error"
	}
	return ""
}

// ahead says what is wrong with those that are named, and else the cells that they have, and their numbers.
func (w *twin) ahead(ring int, named []int) (ids, who []int, code api.Errno) {
	if ring < 0 || ring >= w.r.Rings() {
		return nil, nil, api.ErrNone
	}
	for _, y := range named {
		p := w.part(y)
		switch {
		case p == nil:
			return nil, nil, api.ErrNone
		case p.kind == exchange.Producer || p.kind == exchange.Chooser || p.rings[0] != ring:
			return nil, nil, api.ErrArg
		case p.removed || w.state(y) == actor.Halted:
			return nil, nil, api.ErrHalted
		case slices.Contains(who, y):
			return nil, nil, api.ErrThere
		}
		switch p.kind {
		case exchange.Consumer:
			ids, who = append(ids, p.consumer.Cell()), append(who, y)
		case exchange.Poller:
			ids, who = append(ids, p.poller.Cell()), append(who, y)
		default:
			ids = append(ids, p.pool.Cells()...)
			for _, z := range p.pool.Workers() {
				who = append(who, z.Who())
			}
		}
	}
	return ids, who, 0
}

// err is an error, if there is one.
func err(code api.Errno) error {
	if code == 0 {
		return nil
	}
	return code
}

// addProducer makes a producer in both.
func (w *twin) addProducer(ring int, y wait.Way) string {
	who, e := w.Producer(ring, y)
	busy := ring >= 0 && ring < w.r.Rings() && !w.r.Many(ring) && wait.Check(y) == nil && slices.ContainsFunc(w.parts, func(p *part) bool {
		return p.kind == exchange.Producer && p.rings[0] == ring
	})
	if busy {
		return w.ended("producer", api.ErrBusy, e)
	}
	p, f := producer.New(w.r, ring, y)
	if f == nil {
		w.parts = append(w.parts, &part{kind: exchange.Producer, rings: []int{ring}, producer: p})
		if who != p.Who() {
			return "the number of a producer"
		}
	}
	return w.ended("producer", f, e)
}

// addConsumer makes a consumer in both.
func (w *twin) addConsumer(ring int, y wait.Way, batch int, named ...int) string {
	ids, after, code := w.ahead(ring, named)
	who, e := w.Consumer(ring, y, batch, named...)
	if code != 0 {
		return w.ended("consumer", code, e)
	}
	return w.handler(ring, y, batch, ids, after, who, e)
}

// handler makes a consumer behind some, that has been made by the exchange.
func (w *twin) handler(ring int, y wait.Way, batch int, ids, after []int, who int, e error) string {
	c, f := consumer.New(w.r, ring, y, batch, ids...)
	if f == nil {
		w.parts = append(w.parts, &part{kind: exchange.Consumer, rings: []int{ring}, after: after, consumer: c})
		if who != c.Who() {
			return "the number of a consumer"
		}
	}
	return w.ended("consumer", f, e)
}

// addPool makes a pool in both.
func (w *twin) addPool(ring int, y wait.Way, n int, named ...int) string {
	ids, after, code := w.ahead(ring, named)
	l, e := w.Pool(ring, y, n, named...)
	if code != 0 {
		return w.ended("pool", code, e)
	}
	p, f := pool.New(w.r, ring, y, n, ids...)
	var want []int
	for _, z := range p.Workers() {
		w.parts = append(w.parts, &part{kind: exchange.Worker, rings: []int{ring}, after: after, pool: p, worker: z})
		want = append(want, z.Who())
	}
	if !slices.Equal(l, want) {
		return "the numbers of a pool"
	}
	return w.ended("pool", f, e)
}

// addPoller makes a poller in both.
func (w *twin) addPoller(ring int, y wait.Way, named ...int) string {
	ids, after, code := w.ahead(ring, named)
	who, e := w.Poller(ring, y, named...)
	if code != 0 {
		return w.ended("poller", code, e)
	}
	p, f := poller.New(w.r, ring, y, ids...)
	if f == nil {
		w.parts = append(w.parts, &part{kind: exchange.Poller, rings: []int{ring}, after: after, poller: p})
		if who != p.Who() {
			return "the number of a poller"
		}
	}
	return w.ended("poller", f, e)
}

// addChooser makes a chooser in both.
func (w *twin) addChooser(rings ...int) string {
	who, e := w.Chooser(rings...)
	c, f := chooser.New(w.r, rings...)
	if f == nil {
		w.parts = append(w.parts, &part{kind: exchange.Chooser, rings: rings, chooser: c})
		if who != c.Who() {
			return "the number of a chooser"
		}
	}
	return w.ended("chooser", f, e)
}

// addBuilt makes some consumers in both; those that are handed in may be built.
func (w *twin) addBuilt(ring int, l ...exchange.Spec) string {
	who, e := w.Build(ring, l...)
	if e != nil || len(who) != len(l) {
		return w.ended("build", api.ErrMany, e)
	}
	w.ended("build", nil, nil)
	for range l {
		// The next one is the one whose number is next.
		place := slices.Index(who, len(w.parts))
		if place < 0 {
			return "the numbers of Build"
		}
		var named []int
		for _, ahead := range l[place].After {
			named = append(named, who[ahead])
		}
		ids, after, code := w.ahead(ring, named)
		if code != 0 {
			return "the order of Build"
		}
		if why := w.handler(ring, l[place].Way, l[place].Batch, ids, after, who[place], nil); why != "" {
			return why
		}
	}
	return ""
}

// call lets both have a call more, of one of five sorts.
func (w *twin) call(sort, who, n int) string {
	p := w.part(who)
	if p == nil {
		p = &part{kind: -1}
	}
	l := make([]api.Event, max(0, min(n, 70)))
	for i := range l {
		w.key++
		l[i] = api.Event{Key: w.key, Val: -w.key}
	}
	calls := []struct {
		op   string
		kind exchange.Kind
		x    func() error
		part func() error
	}{
		{"send", exchange.Producer, func() error { return w.Send(who, l...) }, func() error { return p.producer.Send(l...) }},
		{"offer", exchange.Producer, func() error { return w.Offer(who, l...) }, func() error { return p.producer.Offer(l...) }},
		{"poll", exchange.Poller, func() error { return w.Poll(who, n) }, func() error { return p.poller.Poll(n) }},
		{"receive", exchange.Poller, func() error { return w.Receive(who) }, func() error { return p.poller.Receive() }},
		{"select", exchange.Chooser, func() error { return w.Select(who, n) }, func() error { return p.chooser.Select(n) }},
	}
	c := calls[sort]
	switch {
	case w.part(who) == nil:
		return w.ended(c.op, api.ErrNone, c.x())
	case p.kind != c.kind:
		return w.ended(c.op, api.ErrArg, c.x())
	}
	return w.ended(c.op, c.part(), c.x())
}

// alert is the cell of an actor's alert.
func (p *part) alert() int {
	return max(p.producer.Alert(), p.consumer.Alert(), p.worker.Alert(), p.poller.Alert(), p.chooser.Alert())
}

// tell lets the alert of both be something.
func (w *twin) tell(sign, who int) string {
	e := tells(w.Exchange)[sign](who)
	p := w.part(who)
	code := api.Errno(0)
	switch {
	case p == nil:
		code = api.ErrNone
	case w.state(who) == actor.Halted:
		code = api.ErrHalted
	case p.removed:
		code = api.ErrThere
	default:
		w.r.Arena().Store(p.alert(), int64(sign))
		w.r.Wake(who)
	}
	return w.ended("tell", err(code), e)
}

// remove removes one of both.
func (w *twin) remove(who int) string {
	n, e := w.Remove(who)
	want, f := w.leave(who)
	if n != want {
		return "the note of Remove"
	}
	return w.ended("remove", f, e)
}

// leave lets one leave in the room.
func (w *twin) leave(who int) (n api.Note, e error) {
	p := w.part(who)
	switch {
	case p == nil:
		return n, api.ErrNone
	case p.kind == exchange.Producer || p.kind == exchange.Worker:
		return n, api.ErrArg
	case p.removed:
		return n, api.ErrThere
	case p.kind == exchange.Chooser:
		if e = p.chooser.Leave(); e != nil {
			return n, e
		}
		p.removed = true
		return api.Note{Who: who, Ring: p.rings[0]}, nil
	}
	for y := range w.parts {
		if w.behind(y, who) {
			return n, api.ErrBusy
		}
	}
	p.removed = true
	if p.kind == exchange.Poller {
		return p.poller.Leave()
	}
	return p.consumer.Leave()
}

// tick lets time go by in both.
func (w *twin) tick(d int64) string {
	l, e := w.Tick(d)
	want, f := w.r.Tick(d)
	if !slices.Equal(l, want) {
		return "who is woken"
	}
	return w.ended("tick", f, e)
}

// step is a step of one of both.
func (w *twin) step(who int) string {
	n, e := w.Step(who)
	p := w.part(who)
	if p == nil {
		return w.ended("step", api.ErrNone, e)
	}
	steps := []func() (api.Note, error){p.producer.Step, p.consumer.Step, p.worker.Step, p.poller.Step, p.chooser.Step}
	want, f := steps[p.kind]()
	if n != want {
		return "the note of a step"
	}
	return w.ended("step", f, e)
}

// same says what both rooms don't have alike.
func (w *twin) same() string {
	x := w.Room()
	switch {
	case w.Len() != len(w.parts):
		return "how many there are"
	case x.Rings() != w.r.Rings() || x.Arena().Len() != w.r.Arena().Len() || x.Arena().Steps() != w.r.Arena().Steps():
		return "how many rings, cells or steps there are"
	case x.Clock().Now() != w.r.Clock().Now() || x.Clock().Waiting() != w.r.Clock().Waiting():
		return "the clocks"
	}
	a, b := x.Arena().Clone(), w.r.Arena().Clone()
	for id := range a.Len() {
		v, _ := a.Load(id)
		if u, _ := b.Load(id); u != v {
			return "a cell"
		}
	}
	for who := range w.r.Actors().Len() {
		s, t := x.Actors(), w.r.Actors()
		if s.State(who) != t.State(who) || s.Token(who) != t.Token(who) || s.Wakes(who) != t.Wakes(who) {
			return "an actor"
		}
	}
	for ring := range w.r.Rings() {
		if !slices.Equal(x.Waiting(ring), w.r.Waiting(ring)) || !slices.Equal(x.Gate(ring).Cells(), w.r.Gate(ring).Cells()) {
			return "who waits, or holds back"
		}
	}
	return ""
}

// asks says what the exchange tells otherwise of one than its layer.
func (w *twin) asks(who int) string {
	p := w.parts[who]
	k, ok := w.Kind(who)
	switch {
	case k != p.kind || !ok || !slices.Equal(w.Rings(who), p.rings):
		return "its kind, or rings"
	case w.Pending(who) != max(p.producer.Pending(), p.poller.Pending(), p.chooser.Pending()):
		return "its calls"
	case w.Told(who) != number(w.Exchange, p.alert()) || w.Ends(who) != (p.consumer.Ends() || p.worker.Ends()):
		return "what it is told"
	case w.State(who) != w.state(who):
		return "its state"
	}
	left := p.consumer.Left() || p.poller.Left() || p.chooser.Left()
	if p.kind == exchange.Worker {
		left = number(w.Exchange, p.worker.Cell()) == pool.Free
	}
	if w.Left(who) != left {
		return "whether it left"
	}
	for ring := -1; ring <= w.r.Rings(); ring++ {
		id, start := -1, int64(0)
		if slices.Contains(p.rings, ring) {
			id = max(p.consumer.Cell(), p.worker.Cell(), p.poller.Cell(), p.chooser.Cell(ring))
			start = p.consumer.Start() + p.pool.Start() + p.poller.Start() + p.chooser.Start(ring)
		}
		if w.Cell(who, ring) != id || w.Start(who, ring) != start {
			return "its cell, or start"
		}
	}
	for y := range w.parts {
		if w.Behind(who, y) != w.reach(who, y) {
			return "who is behind whom"
		}
	}
	return ""
}

// act is one of all acts, as a generator picks it.
func (w *twin) act(r *rand.Rand) string {
	who := r.IntN(len(w.parts)+3) - 1
	switch what := r.IntN(100); {
	case what < 14:
		return w.call(r.IntN(5), who, r.IntN(6))
	case what < 15:
		return w.call(r.IntN(5), who, edges[r.IntN(len(edges))])
	case what < 19:
		return w.tell(r.IntN(3), who)
	case what < 21:
		return w.remove(who)
	case what < 23:
		return w.tick(r.Int64N(4))
	case what < 25:
		return w.make(r)
	}
	// A step of one that is Ready, mostly.
	if y, ok := w.r.Actors().Legal(r.IntN(999)); ok && r.IntN(20) > 0 {
		who = y
	}
	return w.step(who)
}

// make makes something, as a generator picks it.
func (w *twin) make(r *rand.Rand) string {
	ring, y := r.IntN(w.r.Rings()+2)-1, all[r.IntN(len(all))]
	if r.IntN(12) == 0 {
		y = []wait.Way{{Kind: 4}, {Kind: wait.Yield, Tries: -1}, {Kind: wait.Timed}}[r.IntN(3)]
	}
	var named []int
	for range r.IntN(4) {
		named = append(named, r.IntN(len(w.parts)+2)-1)
	}
	if len(named) > 0 && r.IntN(4) == 0 {
		named = append(named, named[0])
	}
	switch r.IntN(8) {
	case 0:
		return w.addProducer(ring, y)
	case 1, 2:
		return w.addConsumer(ring, y, r.IntN(6), named...)
	case 3, 4:
		return w.addPool(ring, y, r.IntN(4), named...)
	case 5:
		return w.addPoller(ring, y, named...)
	case 6:
		return w.addBuilt(r.IntN(w.r.Rings()), specs(r)...)
	}
	return w.addChooser(named...)
}

// specs are some that may be built, each behind some others, in any order.
func specs(r *rand.Rand) []exchange.Spec {
	order := r.Perm(1 + r.IntN(4))
	l := make([]exchange.Spec, len(order))
	for i, place := range order {
		l[place] = exchange.Spec{Way: all[r.IntN(len(all))], Batch: 1 + r.IntN(4)}
		for _, ahead := range order[:i] {
			if r.IntN(2) == 0 {
				l[place].After = append(l[place].After, ahead)
			}
		}
	}
	return l
}

// P20.1 to P20.4: whatever is made, sent, asked, told, removed, and whoever steps when: all is as by the layers' own calls in a room, and
// what the exchange itself refuses changes nothing.
func TestTwin(t *testing.T) {
	ends := map[string]map[api.Errno]int{}
	for seed := range uint64(400) {
		r := rand.New(rand.NewPCG(seed, 20))
		w := twins()
		w.ends = ends
		for i := range 1 + seed%3 {
			n, k := 1<<r.IntN(4), kinds[(seed/3+i)%2]
			w.Ring(n, k)
			w.r.Ring(n, k)
			if why := w.addProducer(int(i), all[r.IntN(4)]) + w.addConsumer(int(i), all[r.IntN(4)], 1+r.IntN(3)); why != "" {
				t.Fatal(seed, why)
			}
		}
		for i := range 700 {
			why := w.act(r) + w.same()
			if len(w.parts) > 0 {
				why += w.asks(r.IntN(len(w.parts)))
			}
			if why != "" {
				t.Fatal(seed, i, why)
			}
		}
	}
	wants := map[string][]api.Errno{
		"producer": {0, api.ErrNone, api.ErrArg, api.ErrRange, api.ErrBusy},
		"consumer": {0, api.ErrNone, api.ErrArg, api.ErrRange, api.ErrHalted, api.ErrThere},
		"pool":     {0, api.ErrNone, api.ErrArg, api.ErrRange, api.ErrHalted, api.ErrThere},
		"poller":   {0, api.ErrNone, api.ErrArg, api.ErrHalted, api.ErrThere},
		"chooser":  {0, api.ErrNone, api.ErrArg, api.ErrThere},
		"build":    {0},
		"send":     {0, api.ErrNone, api.ErrArg, api.ErrHalted},
		"offer":    {0, api.ErrNone, api.ErrArg, api.ErrHalted},
		"poll":     {0, api.ErrNone, api.ErrArg, api.ErrHalted},
		"receive":  {0, api.ErrNone, api.ErrArg, api.ErrHalted},
		"select":   {0, api.ErrNone, api.ErrArg, api.ErrHalted},
		"tell":     {0, api.ErrNone, api.ErrHalted, api.ErrThere},
		"remove":   {0, api.ErrNone, api.ErrArg, api.ErrHalted, api.ErrThere, api.ErrBusy},
		"tick":     {0, api.ErrArg},
		"step":     {0, api.ErrNone, api.ErrHalted, api.ErrBusy},
	}
	for op, codes := range wants {
		for _, code := range codes {
			if ends[op][code] < 3 {
				t.Fatal(op, code, ends[op])
			}
		}
	}
}

// P20.4: one who isn't told anything any more is told as its layer tells it: the alert of each is its own.
func TestTwinAlerts(t *testing.T) {
	for _, k := range kinds {
		for sign := range 3 {
			for far := range 30 {
				w := twins()
				w.Ring(2, k)
				w.r.Ring(2, k)
				why := w.addProducer(0, block) + w.addConsumer(0, block, 2) + w.addPool(0, block, 2, 1) + w.addPoller(0, timed, 2) + w.addChooser(0)
				for who := range w.Len() {
					why += w.call(0, who, 1) + w.call(3, who, 0) + w.call(4, who, 0)
				}
				for i := range 6 * far {
					why += w.step(i % 6)
				}
				for who := range w.Len() {
					why += w.tell(sign, who)
				}
				for i := range 300 {
					why += w.step(i%6) + w.same() + w.asks(i%6)
				}
				if why != "" {
					t.Fatal(k, sign, far, why)
				}
				if w.ends["step"][0] == 0 || sign == barrier.Alerted && w.State(1) != actor.Halted {
					t.Fatal(k, sign, far, w.ends)
				}
			}
		}
	}
}
