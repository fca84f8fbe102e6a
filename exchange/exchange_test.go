package exchange_test

import (
	"errors"
	"math"
	"noria/actor"
	"noria/api"
	"noria/barrier"
	"noria/exchange"
	"noria/fault"
	"noria/pool"
	"noria/room"
	"noria/wait"
	"slices"
	"testing"
)

// edges are numbers near the ends of their type, and near the bounds that the document names.
var edges = []int{math.MinInt, -2, -1, 0, 1, 2, 7, 8, 9, 31, 32, 33, 63, 64, 65, math.MaxInt}

// kinds are both kinds of rings.
var kinds = []room.Kind{room.Single, room.Multi}

// The ways of waiting.
var (
	spin  = wait.Way{Kind: wait.Spin}
	yield = wait.Way{Kind: wait.Yield, Tries: 2}
	block = wait.Way{Kind: wait.Block}
	timed = wait.Way{Kind: wait.Timed, Time: 4}
	all   = []wait.Way{spin, yield, block, timed}
)

// made is an exchange with some rings of so many slots.
func made(t *testing.T, n int, l ...room.Kind) *exchange.Exchange {
	t.Helper()
	x := exchange.New()
	for i, k := range l {
		if ring, e := x.Ring(n, k); ring != i || e != nil {
			t.Fatal(n, k, ring, e)
		}
	}
	return x
}

// must is the one actor that was made.
func must(t *testing.T) func(int, error) int {
	return func(who int, e error) int {
		t.Helper()
		if e != nil {
			t.Fatal(who, e)
		}
		return who
	}
}

// some are the actors that were made.
func some(t *testing.T) func([]int, error) []int {
	return func(who []int, e error) []int {
		t.Helper()
		if e != nil || len(who) == 0 {
			t.Fatal(who, e)
		}
		return who
	}
}

// done wants a call to be well.
func done(t *testing.T, e error) {
	t.Helper()
	if e != nil {
		t.Fatal(e)
	}
}

// stepped is the note of a step.
func stepped(t *testing.T, x *exchange.Exchange, who int) api.Note {
	t.Helper()
	n, e := x.Step(who)
	if e != nil {
		t.Fatal(who, e)
	}
	return n
}

// until lets one step till a deed is seen: the note of that.
func until(t *testing.T, x *exchange.Exchange, who int, d api.Deed) api.Note {
	t.Helper()
	for range 999 {
		if n := stepped(t, x, who); n.Deed == d {
			return n
		}
	}
	t.Fatal(d, "isn't seen")
	return api.Note{}
}

// rest lets one step till it isn't Ready any more.
func rest(t *testing.T, x *exchange.Exchange, who int) {
	t.Helper()
	for i := 0; x.State(who) == actor.Ready; i++ {
		if stepped(t, x, who); i > 999 {
			t.Fatal(who, "doesn't rest")
		}
	}
}

// fill lays cells till so many are left.
func fill(t *testing.T, x *exchange.Exchange, left int) {
	t.Helper()
	for x.Room().Arena().Len() < api.MaxCells-left {
		if _, e := x.Room().Arena().Alloc(-1); e != nil {
			t.Fatal(e)
		}
	}
}

// number is what a cell has, without a step.
func number(x *exchange.Exchange, id int) int64 {
	v, _ := x.Room().Arena().Clone().Load(id)
	return v
}

// one is 1 for true.
func one(ok bool) int64 {
	if ok {
		return 1
	}
	return 0
}

// sights are all that an exchange tells of one that is an actor of it, or not.
func sights(x *exchange.Exchange, who int) []int64 {
	k, ok := x.Kind(who)
	l := []int64{int64(k), one(ok), int64(x.Pending(who)), one(x.Left(who)), x.Told(who), one(x.Ends(who)), int64(x.State(who))}
	for _, ring := range x.Rings(who) {
		l = append(l, int64(ring))
	}
	for ring := -1; ring <= x.Room().Rings(); ring++ {
		l = append(l, int64(x.Cell(who, ring)), x.Start(who, ring))
	}
	for other := -1; other <= x.Len(); other++ {
		l = append(l, one(x.Behind(who, other)))
	}
	return l
}

// told is all that an exchange, and its room, tell without a step.
func told(x *exchange.Exchange) []int64 {
	r := x.Room()
	next, _ := r.Clock().Next()
	l := []int64{int64(x.Len()), r.Clock().Now(), next, int64(r.Clock().Waiting()), int64(r.Rings()), int64(r.Arena().Len())}
	for who := -1; who <= x.Len(); who++ {
		l = append(l, sights(x, who)...)
	}
	a := r.Arena().Clone()
	for id := range min(a.Len(), 300) {
		v, _ := a.Load(id)
		l = append(l, v)
	}
	for who := range r.Actors().Len() {
		l = append(l, int64(r.Actors().State(who)), one(r.Actors().Token(who)), int64(r.Actors().Wakes(who)))
	}
	for id := range r.Rings() {
		for _, y := range append(r.Waiting(id), r.Gate(id).Cells()...) {
			l = append(l, int64(y))
		}
		for seq := range min(r.Slots(id).Size().Slots(), 64) {
			y, _ := r.Slots(id).Get(seq)
			l = append(l, y.Key, y.Val)
		}
	}
	// Last: to ask was no step.
	return append(l, int64(r.Arena().Steps()))
}

// refused wants a call to be refused with this error, and nothing to have changed.
func refused(t *testing.T, x *exchange.Exchange, want api.Errno, call func() error) {
	t.Helper()
	was := told(x)
	if e := call(); !errors.Is(e, want) || !fault.Is(e, want) {
		t.Fatal(want, e)
	}
	if now := told(x); !slices.Equal(was, now) {
		t.Fatal(want, was, now)
	}
}

// makes are all ways in which actors come to be behind others; they answer how many were made.
func makes(x *exchange.Exchange) map[string]func(ring int, w wait.Way, after ...int) (int, error) {
	return map[string]func(int, wait.Way, ...int) (int, error){
		"consumer": func(ring int, w wait.Way, after ...int) (int, error) {
			who, e := x.Consumer(ring, w, 1, after...)
			return who, e
		},
		"pool": func(ring int, w wait.Way, after ...int) (int, error) {
			l, e := x.Pool(ring, w, 2, after...)
			if len(l) == 0 {
				return 0, e
			}
			return l[0], e
		},
		"poller": func(ring int, w wait.Way, after ...int) (int, error) {
			return x.Poller(ring, w, after...)
		},
	}
}

// P20.1: a new exchange has a room, without a ring, without an actor; rings are made as by the room.
func TestNew(t *testing.T) {
	x := exchange.New()
	r := x.Room()
	if x.Len() != 0 || r == nil || r != x.Room() || r.Rings() != 0 || r.Actors().Len() != 0 || r.Arena().Len() != 0 {
		t.Fatal(told(x))
	}
	if y := exchange.New(); y.Room() == x.Room() {
		t.Fatal("two have one room")
	}
	for _, n := range edges {
		refused(t, x, api.ErrArg, func() error { _, e := x.Ring(n, 2); return e })
		refused(t, x, api.ErrArg, func() error { _, e := x.Ring(n, -1); return e })
		if n < 1 || n&(n-1) != 0 {
			for _, k := range kinds {
				refused(t, x, api.ErrSize, func() error { _, e := x.Ring(n, k); return e })
			}
		}
	}
	for i := range api.MaxRings {
		k := kinds[i%2]
		ring, e := x.Ring(1<<i, k)
		if ring != i || e != nil || r.Rings() != i+1 || r.Many(i) != (k == room.Multi) || r.Slots(i).Size().Slots() != 1<<i {
			t.Fatal(i, ring, e)
		}
	}
	refused(t, x, api.ErrMany, func() error { _, e := x.Ring(2, room.Multi); return e })
	refused(t, x, api.ErrSize, func() error { _, e := x.Ring(3, room.Multi); return e })
	if x.Len() != 0 {
		t.Fatal(x.Len())
	}
}

// P20.1: each is a new actor of the room, with the number behind that of the one ahead, whatever it is.
func TestMake(t *testing.T) {
	x := made(t, 4, room.Single, room.Multi)
	n := 0
	next := func(who int, e error) {
		t.Helper()
		if e != nil || who != n || x.Len() != n+1 || x.Room().Actors().Len() != n+1 || x.State(who) != actor.Ready {
			t.Fatal(n, who, e, x.Len())
		}
		n++
	}
	for i := range 2 {
		next(x.Producer(i, all[i]))
		next(x.Consumer(1, all[i], 3))
		l, e := x.Pool(i, block, 3, behindLast(i, n)...)
		if e != nil || !slices.Equal(l, []int{n, n + 1, n + 2}) || x.Len() != n+3 || x.Room().Actors().Len() != n+3 {
			t.Fatal(l, e)
		}
		n += 3
		next(x.Poller(i, timed))
		next(x.Chooser(i))
		next(x.Chooser(1, 0))
		next(x.Producer(1, spin))
		if l, e = x.Build(1, exchange.Spec{Way: spin, Batch: 1}, exchange.Spec{Way: spin, Batch: 2}); e != nil || !slices.Equal(l, []int{n, n + 1}) {
			t.Fatal(l, e)
		}
		n += 2
	}
}

// behindLast is a list of the actor ahead of another one, if that is on the ring.
func behindLast(ring, n int) []int {
	if ring == 1 {
		return []int{n - 1}
	}
	return nil
}

// P20.1, errors: a Single ring has one producer, ever: one that is halted counts; a Multi ring has as many as there may be.
func TestProducer(t *testing.T) {
	x := made(t, 2, room.Single, room.Multi, room.Single)
	sender := func(ring int, w wait.Way) func() error {
		return func() error { _, e := x.Producer(ring, w); return e }
	}
	p := must(t)(x.Producer(0, block))
	refused(t, x, api.ErrBusy, sender(0, spin))
	must(t)(x.Producer(2, spin))
	refused(t, x, api.ErrBusy, sender(2, spin))
	// The way comes first, the ring ahead of that.
	refused(t, x, api.ErrArg, sender(0, wait.Way{Kind: 4}))
	refused(t, x, api.ErrRange, sender(0, wait.Way{Kind: wait.Timed}))
	refused(t, x, api.ErrRange, sender(1, wait.Way{Kind: wait.Yield, Tries: 1001}))
	for _, n := range edges {
		if n < 0 || n > 2 {
			refused(t, x, api.ErrNone, sender(n, wait.Way{Kind: 4}))
		}
	}
	done(t, x.Drain(p))
	rest(t, x, p)
	if refused(t, x, api.ErrBusy, sender(0, spin)); x.State(p) != actor.Halted {
		t.Fatal(x.State(p))
	}
	for x.Len() < api.MaxActors {
		must(t)(x.Producer(1, spin))
	}
	refused(t, x, api.ErrMany, sender(1, spin))
	refused(t, x, api.ErrBusy, sender(0, spin))
	refused(t, x, api.ErrArg, sender(1, wait.Way{Kind: -1}))
	y := made(t, 2, room.Multi)
	fill(t, y, 0)
	refused(t, y, api.ErrMany, func() error { _, e := y.Producer(0, spin); return e })
}

// P20.1, errors: who may be named as one ahead, and what is wrong with others, in order.
func TestAhead(t *testing.T) {
	for _, k := range kinds {
		for what := range makes(exchange.New()) {
			x := made(t, 4, k, k)
			call := makes(x)[what]
			fails := func(want api.Errno, ring int, w wait.Way, after ...int) {
				t.Helper()
				was := slices.Clone(after)
				refused(t, x, want, func() error {
					who, e := call(ring, w, after...)
					if who != 0 {
						t.Fatal(what, who, "beside an error")
					}
					return e
				})
				if !slices.Equal(was, after) {
					t.Fatal(what, after, "was changed")
				}
			}
			p := must(t)(x.Producer(0, spin))
			c := must(t)(x.Consumer(0, spin, 1))
			l := some(t)(x.Pool(0, spin, 3))
			o := must(t)(x.Poller(0, spin, c))
			h := must(t)(x.Chooser(0))
			far := must(t)(x.Consumer(1, spin, 1))
			stopped := must(t)(x.Consumer(0, block, 1))
			done(t, x.Alert(stopped))
			rest(t, x, stopped)
			removed := must(t)(x.Poller(0, spin))
			if _, e := x.Remove(removed); e != nil {
				t.Fatal(e)
			}
			bad := wait.Way{Kind: 7}
			// There is no such ring, whatever else is wrong.
			for _, n := range edges {
				if n < 0 || n > 1 {
					fails(api.ErrNone, n, bad, p)
				}
				if n < 0 || n >= x.Len() {
					fails(api.ErrNone, 0, bad, n)
					fails(api.ErrNone, 0, spin, c, l[1], n, p)
				}
			}
			fails(api.ErrNone, 0, spin, x.Len())
			for _, who := range []int{p, h, far} {
				fails(api.ErrArg, 0, bad, who)
				fails(api.ErrArg, 0, spin, c, o, who, -1)
			}
			fails(api.ErrArg, 1, spin, c)
			fails(api.ErrArg, 1, spin, l[0])
			// Of another ring comes ahead of Halted.
			fails(api.ErrArg, 1, spin, stopped)
			fails(api.ErrArg, 1, spin, removed)
			for _, who := range []int{stopped, removed} {
				fails(api.ErrHalted, 0, spin, who)
				fails(api.ErrHalted, 0, bad, c, l[2], who, who, p)
			}
			fails(api.ErrThere, 0, bad, c, c)
			fails(api.ErrThere, 0, spin, l[0], c, l[0])
			fails(api.ErrThere, 0, spin, l[0], l[2])
			fails(api.ErrThere, 0, spin, c, o, l[2], l[1], -1)
			// What the layer says comes behind all of that.
			fails(api.ErrArg, 0, bad, c, l[1], o)
			fails(api.ErrRange, 0, wait.Way{Kind: wait.Timed}, c, l[1], o)
			who, e := call(0, spin, o, l[1], c)
			if e != nil {
				t.Fatal(what, e)
			}
			for _, a := range []int{c, o, l[0], l[1], l[2]} {
				if !x.Behind(who, a) || x.Behind(a, who) {
					t.Fatal(what, a)
				}
			}
			// A worker of a pool that is Halted is refused; another one isn't.
			done(t, x.Alert(l[0]))
			rest(t, x, l[0])
			fails(api.ErrHalted, 0, spin, l[0])
			if who, e := call(0, spin, l[1]); e != nil || !x.Behind(who, l[0]) {
				t.Fatal(what, e)
			}
		}
	}
}

// P20.1, errors: what layers 16, 17 and 18 say, behind what the exchange does.
func TestLayers(t *testing.T) {
	x := made(t, 4, room.Single, room.Multi)
	c := must(t)(x.Consumer(0, spin, 1))
	for _, n := range edges {
		if n < 1 || n > api.MaxBatch {
			refused(t, x, api.ErrArg, func() error { _, e := x.Consumer(0, spin, n, c); return e })
			refused(t, x, api.ErrThere, func() error { _, e := x.Consumer(0, spin, n, c, c); return e })
		}
		if n < 1 || n > api.MaxPool {
			refused(t, x, api.ErrArg, func() error { _, e := x.Pool(0, spin, n, c); return e })
			refused(t, x, api.ErrThere, func() error { _, e := x.Pool(0, spin, n, c, c); return e })
		}
	}
	// One and a pool of 16: 18 cells; with one of 13 more 32.
	some(t)(x.Pool(0, spin, api.MaxPool))
	refused(t, x, api.ErrMany, func() error { _, e := x.Pool(0, spin, 14); return e })
	refused(t, x, api.ErrNone, func() error { _, e := x.Pool(0, spin, 14, -1); return e })
	some(t)(x.Pool(0, spin, 13, c))
	refused(t, x, api.ErrMany, func() error { _, e := x.Consumer(0, spin, 1); return e })
	refused(t, x, api.ErrMany, func() error { _, e := x.Poller(0, spin); return e })
	refused(t, x, api.ErrMany, func() error { _, e := x.Pool(0, spin, 1); return e })
	refused(t, x, api.ErrMany, func() error { _, e := x.Chooser(1, 0); return e })
	refused(t, x, api.ErrArg, func() error { _, e := x.Consumer(0, spin, 0); return e })
	must(t)(x.Chooser(1))
	for x.Len() < api.MaxActors {
		must(t)(x.Poller(1+x.Len()/60, spin))
		if x.Len() == 60 {
			must(t)(x.Ring(1, room.Single))
		}
	}
	refused(t, x, api.ErrMany, func() error { _, e := x.Consumer(2, spin, 1); return e })
	refused(t, x, api.ErrMany, func() error { _, e := x.Poller(2, spin); return e })
	refused(t, x, api.ErrMany, func() error { _, e := x.Pool(2, spin, 1); return e })
	refused(t, x, api.ErrMany, func() error { _, e := x.Chooser(2); return e })
}

// P20.1: all 32 that may hold a ring back stand one behind the other, or one behind all others; a pool's cells are all of these.
func TestCrowd(t *testing.T) {
	x := made(t, 2, room.Multi)
	var l []int
	for range api.MaxGroup - 1 {
		l = append(l, must(t)(x.Consumer(0, spin, 1, l...)))
	}
	last := must(t)(x.Poller(0, spin, l...))
	for i, who := range append(l, last) {
		for j := range x.Len() {
			if x.Behind(who, j) != (j < i) {
				t.Fatal(who, j)
			}
		}
	}
	for i := len(l); i >= 0; i-- {
		who := append(l, last)[i]
		if i < len(l) {
			refused(t, x, api.ErrHalted, func() error { _, e := x.Poller(0, spin, last); return e })
		}
		if _, e := x.Remove(who); e != nil {
			t.Fatal(who, e)
		}
	}
}

// P20.1: of choosers what layer 19 says.
func TestChooser(t *testing.T) {
	x := made(t, 2, room.Single, room.Multi, room.Single)
	call := func(l ...int) func() error {
		return func() error {
			who, e := x.Chooser(l...)
			if who != 0 {
				t.Fatal(who, "beside an error")
			}
			return e
		}
	}
	refused(t, x, api.ErrArg, call())
	for _, n := range edges {
		if n < 0 || n > 2 {
			refused(t, x, api.ErrNone, call(n))
			refused(t, x, api.ErrNone, call(1, 0, n, 0))
		}
	}
	refused(t, x, api.ErrThere, call(1, 0, 1, 9))
	for i, l := range [][]int{{2, 0}, {0}, {1, 2, 0}} {
		if who := must(t)(x.Chooser(l...)); who != i || !slices.Equal(x.Rings(who), l) {
			t.Fatal(i, who, x.Rings(who))
		}
	}
}

// R1, errors: of nil every call that may be refused is ErrNil, and every other one answers as of one that isn't there.
func TestNil(t *testing.T) {
	var x *exchange.Exchange
	if x.Room() != nil || x.Len() != 0 {
		t.Fatal(x.Room(), x.Len())
	}
	for name, e := range failures(x, 0) {
		if !errors.Is(e, api.ErrNil) {
			t.Fatal(name, e)
		}
	}
	absent(t, x, 0)
	absent(t, x, -1)
}

// failures are the errors of all calls that answer one, of an actor.
func failures(x *exchange.Exchange, who int) map[string]error {
	m := map[string]error{}
	_, m["ring"] = x.Ring(3, 9)
	_, m["producer"] = x.Producer(who, wait.Way{Kind: 9})
	_, m["consumer"] = x.Consumer(who, wait.Way{Kind: 9}, 0, 5)
	_, m["pool"] = x.Pool(who, wait.Way{Kind: 9}, 0, 5)
	_, m["poller"] = x.Poller(who, wait.Way{Kind: 9}, 5)
	_, m["chooser"] = x.Chooser()
	_, m["build"] = x.Build(who)
	_, m["tick"] = x.Tick(0)
	for name, e := range calls(x, who) {
		m[name] = e
	}
	return m
}

// calls are the errors of all calls that an actor is named to.
func calls(x *exchange.Exchange, who int) map[string]error {
	m := map[string]error{}
	m["send"] = x.Send(who)
	m["offer"] = x.Offer(who)
	m["poll"] = x.Poll(who, 0)
	m["receive"] = x.Receive(who)
	m["select"] = x.Select(who, 0)
	m["alert"] = x.Alert(who)
	m["clear"] = x.Clear(who)
	m["drain"] = x.Drain(who)
	var n api.Note
	if n, m["remove"] = x.Remove(who); m["remove"] != nil && n != (api.Note{}) {
		m["remove"] = errors.New("a note beside an error")
	}
	if n, m["step"] = x.Step(who); m["step"] != nil && n != (api.Note{}) {
		m["step"] = errors.New("a note beside an error")
	}
	return m
}

// absent wants nothing to be told of one that isn't there.
func absent(t *testing.T, x *exchange.Exchange, who int) {
	t.Helper()
	if k, ok := x.Kind(who); k != 0 || ok || len(x.Rings(who)) != 0 || x.Pending(who) != 0 || x.Left(who) || x.Ends(who) {
		t.Fatal(who, k, ok, x.Rings(who), x.Pending(who), x.Left(who), x.Ends(who))
	}
	if x.Told(who) != barrier.Quiet || x.State(who) != actor.Halted {
		t.Fatal(who, x.Told(who), x.State(who))
	}
	for _, n := range edges {
		if x.Cell(who, n) != -1 || x.Start(who, n) != 0 || x.Behind(who, n) || x.Behind(n, who) {
			t.Fatal(who, n, x.Cell(who, n), x.Start(who, n))
		}
	}
}

// R1: one that New didn't make doesn't panic either.
func TestUnmade(t *testing.T) {
	x := &exchange.Exchange{}
	for who := -1; who < 2; who++ {
		failures(x, who)
		absent(t, x, who)
	}
	x.Build(0, exchange.Spec{Way: spin, Batch: 1})
	x.Chooser(0)
	if x.Len() != 0 || x.Room().Rings() != 0 {
		t.Fatal(x.Len())
	}
}

// Errors: one that isn't there is ErrNone, of every call, and nothing changes.
func TestNone(t *testing.T) {
	x := made(t, 2, room.Single)
	must(t)(x.Producer(0, block))
	must(t)(x.Poller(0, block))
	must(t)(x.Chooser(0))
	for _, who := range append(edges, 3, 4, 5) {
		if who >= 0 && who < x.Len() {
			continue
		}
		was := told(x)
		for name, e := range calls(x, who) {
			if !errors.Is(e, api.ErrNone) {
				t.Fatal(who, name, e)
			}
		}
		absent(t, x, who)
		if !slices.Equal(was, told(x)) {
			t.Fatal(who, "something changed")
		}
	}
}

// P20.3: of each kind all that is told, before anything is done, and at rings that aren't its.
func TestAsks(t *testing.T) {
	x := made(t, 8, room.Multi, room.Single, room.Multi)
	p := must(t)(x.Producer(0, block))
	q := must(t)(x.Producer(1, block))
	for i := range 3 {
		done(t, x.Send(p, api.Event{Key: int64(i)}, api.Event{}))
		done(t, x.Send(q, api.Event{Key: int64(i)}))
	}
	rest(t, x, p)
	rest(t, x, q)
	c := must(t)(x.Consumer(0, spin, 2))
	l := some(t)(x.Pool(0, block, 2, c))
	o := must(t)(x.Poller(1, timed))
	h := must(t)(x.Chooser(2, 1))
	wants := []struct {
		who   int
		kind  exchange.Kind
		rings []int
		start map[int]int64
	}{
		{p, exchange.Producer, []int{0}, nil},
		{q, exchange.Producer, []int{1}, nil},
		{c, exchange.Consumer, []int{0}, map[int]int64{0: 6}},
		{l[0], exchange.Worker, []int{0}, map[int]int64{0: 6}},
		{l[1], exchange.Worker, []int{0}, map[int]int64{0: 6}},
		{o, exchange.Poller, []int{1}, map[int]int64{1: 3}},
		{h, exchange.Chooser, []int{2, 1}, map[int]int64{2: 0, 1: 3}},
	}
	seen := map[int]bool{}
	for _, w := range wants {
		if k, ok := x.Kind(w.who); k != w.kind || !ok || !slices.Equal(x.Rings(w.who), w.rings) {
			t.Fatal(w.who, k, ok, x.Rings(w.who))
		}
		for _, ring := range append(edges, 3, 4) {
			start, ok := w.start[ring]
			id := x.Cell(w.who, ring)
			if !ok && id != -1 || x.Start(w.who, ring) != start {
				t.Fatal(w.who, ring, id, x.Start(w.who, ring))
			}
			if ok && (number(x, id) != start-1 || !slices.Contains(x.Room().Gate(ring).Cells(), id)) {
				t.Fatal(w.who, ring, id, number(x, id), x.Room().Gate(ring).Cells())
			}
			if ok && ring < 3 && ring != 0 && seen[id] {
				t.Fatal("two have one cell", w.who, ring, id)
			}
			seen[id] = true
		}
		if x.Pending(w.who) != 0 || x.Left(w.who) || x.Told(w.who) != barrier.Quiet || x.Ends(w.who) {
			t.Fatal(w.who, x.Pending(w.who), x.Left(w.who), x.Told(w.who), x.Ends(w.who))
		}
	}
	// What is handed out is new memory.
	x.Rings(h)[0] = 9
	x.Rings(p)[0] = 9
	if !slices.Equal(x.Rings(h), []int{2, 1}) || !slices.Equal(x.Rings(p), []int{0}) {
		t.Fatal(x.Rings(h), x.Rings(p))
	}
}

// P20.3: what the alert has is what its cell has; a worker has left when its own cell is Free.
func TestCells(t *testing.T) {
	x := made(t, 2, room.Single)
	// The cells of the ring are 0 alone: the producer's alert is the next one.
	p := must(t)(x.Producer(0, spin))
	done(t, x.Room().Arena().Store(1, 9))
	l := some(t)(x.Pool(0, spin, 2))
	done(t, x.Room().Arena().Store(x.Cell(l[1], 0), pool.Free))
	steps := x.Room().Arena().Steps()
	if x.Told(p) != 9 || x.Left(l[0]) || !x.Left(l[1]) || x.Room().Arena().Steps() != steps {
		t.Fatal(x.Told(p), x.Left(l[0]), x.Left(l[1]))
	}
}
