package audit_test

import (
	"math"
	"noria/actor"
	"noria/api"
	"noria/audit"
	"noria/exchange"
	"noria/pool"
	"noria/room"
	"noria/wait"
	"slices"
	"testing"
)

// bothKinds are the kinds of rings.
var bothKinds = []room.Kind{room.Single, room.Multi}

// The ways of waiting.
var (
	spin  = wait.Way{Kind: wait.Spin}
	yield = wait.Way{Kind: wait.Yield, Tries: 2}
	block = wait.Way{Kind: wait.Block}
	timed = wait.Way{Kind: wait.Timed, Time: 4}
	all   = []wait.Way{spin, yield, block, timed}
)

// holders are the kinds of those who hold rings back.
var holders = []exchange.Kind{exchange.Consumer, exchange.Worker, exchange.Poller, exchange.Chooser}

// made is an exchange with some rings of so many slots.
func made(t *testing.T, n int, l ...room.Kind) *exchange.Exchange {
	t.Helper()
	x := exchange.New()
	for _, k := range l {
		must(t)(x.Ring(n, k))
	}
	return x
}

// must is the number that was answered.
func must(t *testing.T) func(int, error) int {
	return func(n int, e error) int {
		t.Helper()
		done(t, e)
		return n
	}
}

// some are the numbers that were answered.
func some(t *testing.T) func([]int, error) []int {
	return func(l []int, e error) []int {
		t.Helper()
		done(t, e)
		return l
	}
}

// done wants a call to be well.
func done(t *testing.T, e error) {
	t.Helper()
	if e != nil {
		t.Fatal(e)
	}
}

// join is one more of a kind that holds a ring back.
func join(t *testing.T, x *exchange.Exchange, k exchange.Kind, ring int) int {
	t.Helper()
	switch k {
	case exchange.Consumer:
		return must(t)(x.Consumer(ring, spin, 2))
	case exchange.Worker:
		return some(t)(x.Pool(ring, spin, 1))[0]
	case exchange.Poller:
		return must(t)(x.Poller(ring, spin))
	}
	return must(t)(x.Chooser(ring))
}

// steps lets one step so often.
func steps(t *testing.T, x *exchange.Exchange, who, n int) {
	t.Helper()
	for range n {
		if _, e := x.Step(who); e != nil {
			t.Fatal(who, e)
		}
	}
}

// settle lets one step till it isn't Ready any more.
func settle(t *testing.T, x *exchange.Exchange, who int) {
	t.Helper()
	for i := 0; x.State(who) == actor.Ready; i++ {
		if steps(t, x, who, 1); i > 999 {
			t.Fatal(who, "doesn't rest")
		}
	}
}

// sent lets a new producer send so many events, one by one.
func sent(t *testing.T, x *exchange.Exchange, ring, n int) {
	t.Helper()
	p := must(t)(x.Producer(ring, spin))
	for i := range n {
		done(t, x.Send(p, api.Event{Key: int64(i)}))
	}
	for i := 0; x.Pending(p) > 0; i++ {
		if steps(t, x, p, 1); i > 99*n {
			t.Fatal("there is no room")
		}
	}
}

// put lets a cell have a number.
func put(t *testing.T, x *exchange.Exchange, id int, v int64) {
	t.Helper()
	done(t, x.Room().Arena().Store(id, v))
}

// at lets the cell of one at a ring have a number.
func at(t *testing.T, x *exchange.Exchange, who, ring int, v int64) {
	t.Helper()
	put(t, x, x.Cell(who, ring), v)
}

// cursor lets the cursor's cell of a ring have a number.
func cursor(t *testing.T, x *exchange.Exchange, ring int, v int64) {
	t.Helper()
	put(t, x, x.Room().Cursor(ring), v)
}

// told is all that an exchange, and its room, tell without a step.
func told(x *exchange.Exchange) []int64 {
	r := x.Room()
	next, _ := r.Clock().Next()
	l := []int64{int64(x.Len()), int64(r.Rings()), r.Clock().Now(), next, int64(r.Clock().Waiting())}
	a := r.Arena().Clone()
	for id := range a.Len() {
		v, _ := a.Load(id)
		l = append(l, v)
	}
	for who := range x.Len() {
		l = append(l, int64(x.State(who)), int64(x.Pending(who)), int64(r.Actors().Wakes(who)))
	}
	for ring := range r.Rings() {
		for _, n := range append(r.Waiting(ring), r.Gate(ring).Cells()...) {
			l = append(l, int64(n))
		}
	}
	// Last: to ask was no step.
	return append(l, int64(r.Arena().Steps()))
}

// finds wants just these to be found, each time that it is asked, and nothing to change by it.
func finds(t *testing.T, x *exchange.Exchange, want ...audit.Finding) {
	t.Helper()
	was := told(x)
	for range 2 {
		if l := audit.Check(x); !slices.Equal(l, want) {
			t.Fatal(l, want)
		}
		if audit.Sound(x) != (len(want) == 0) {
			t.Fatal(want)
		}
	}
	if now := told(x); !slices.Equal(was, now) {
		t.Fatal(was, now)
	}
}

// P24.1: the rules' numbers.
func TestRules(t *testing.T) {
	if audit.Room != 1 || audit.Over != 2 || audit.Ahead != 3 || audit.Gate != 4 || audit.Calls != 5 || audit.Timers != 6 {
		t.Fatal(audit.Room, audit.Over, audit.Ahead, audit.Gate, audit.Calls, audit.Timers)
	}
}

// P24.1, example 1.
func TestExample(t *testing.T) {
	x := made(t, 8, room.Single)
	c := must(t)(x.Consumer(0, block, 1))
	finds(t, x)
	at(t, x, c, 0, 5)
	finds(t, x, audit.Finding{Rule: audit.Over, Who: c})
}

// P24.1, R1: of nil, and of one that no call made, nothing is found, and nobody panics.
func TestNil(t *testing.T) {
	for _, x := range []*exchange.Exchange{nil, {}, exchange.New()} {
		if l := audit.Check(x); len(l) != 0 || !audit.Sound(x) {
			t.Fatal(l)
		}
	}
}

// P24.1: Room: who holds a ring back may be a size behind the cursor, and not more.
func TestRoom(t *testing.T) {
	for _, g := range bothKinds {
		for _, k := range holders {
			for shift := range 5 {
				x := made(t, 1<<shift, g, g)
				join(t, x, k, 0)
				who := join(t, x, k, 1)
				for _, last := range []int64{-1, 0, 7, 1000, api.MaxSeq, math.MaxInt64} {
					cursor(t, x, 1, last)
					at(t, x, who, 1, last-1<<shift)
					finds(t, x)
					at(t, x, who, 1, last-1<<shift-1)
					finds(t, x, audit.Finding{Rule: audit.Room, Who: who, Ring: 1})
					at(t, x, who, 1, math.MinInt64)
					finds(t, x, audit.Finding{Rule: audit.Room, Who: who, Ring: 1})
				}
			}
		}
	}
}

// P24.1, R6: Room: nothing is reckoned below the least number that there is.
func TestRoomLeast(t *testing.T) {
	x := made(t, 4, room.Single)
	who := must(t)(x.Consumer(0, spin, 1))
	for _, v := range []int64{math.MinInt64, math.MinInt64 + 1, math.MinInt64 + 3, math.MinInt64 + 4} {
		cursor(t, x, 0, v)
		at(t, x, who, 0, math.MinInt64)
		finds(t, x)
	}
	cursor(t, x, 0, math.MinInt64+5)
	finds(t, x, audit.Finding{Rule: audit.Room, Who: who})
}

// P24.1: Room: only of those whose cell is in the ring's group.
func TestRoomHeld(t *testing.T) {
	for _, k := range holders {
		x := made(t, 2, room.Multi)
		who := join(t, x, k, 0)
		cursor(t, x, 0, 50)
		finds(t, x, audit.Finding{Rule: audit.Room, Who: who})
		done(t, x.Room().Gate(0).Drop(x.Cell(who, 0)))
		if k == exchange.Chooser {
			finds(t, x)
		} else {
			finds(t, x, audit.Finding{Rule: audit.Gate, Who: who})
		}
	}
}

// P24.1: Over: one may be done with what the cursor has, and not with more.
func TestOver(t *testing.T) {
	for _, g := range bothKinds {
		for _, k := range holders {
			x := made(t, 4, g, g)
			join(t, x, k, 0)
			who := join(t, x, k, 1)
			for _, last := range []int64{-1, 0, 9, api.MaxSeq, math.MaxInt64 - 2} {
				cursor(t, x, 1, last)
				at(t, x, who, 1, last)
				finds(t, x)
				at(t, x, who, 1, last+1)
				finds(t, x, audit.Finding{Rule: audit.Over, Who: who, Ring: 1})
				at(t, x, who, 1, math.MaxInt64-1)
				finds(t, x, audit.Finding{Rule: audit.Over, Who: who, Ring: 1})
			}
			// Out of the group, too.
			if done(t, x.Room().Gate(1).Drop(x.Cell(who, 1))); k == exchange.Chooser {
				finds(t, x, audit.Finding{Rule: audit.Over, Who: who, Ring: 1})
			} else {
				finds(t, x, audit.Finding{Rule: audit.Over, Who: who, Ring: 1}, audit.Finding{Rule: audit.Gate, Who: who, Ring: 1})
			}
		}
	}
}

// P24.1: who is Free is neither too far behind, nor too far.
func TestFree(t *testing.T) {
	for _, k := range holders {
		x := made(t, 4, room.Single)
		a := must(t)(x.Consumer(0, spin, 1))
		who := join(t, x, k, 0)
		b := must(t)(x.Consumer(0, spin, 1, a))
		for _, last := range []int64{-1, 3, math.MaxInt64} {
			cursor(t, x, 0, last)
			at(t, x, a, 0, last)
			at(t, x, who, 0, pool.Free)
			at(t, x, b, 0, pool.Free)
			finds(t, x)
		}
	}
}

// P24.1: Ahead: one may be done with what those have that it is behind, and not with more.
func TestAhead(t *testing.T) {
	for _, g := range bothKinds {
		x := made(t, 8, g, g)
		must(t)(x.Consumer(0, spin, 1))
		a := must(t)(x.Consumer(1, spin, 1))
		other := must(t)(x.Consumer(1, spin, 1))
		kinds := map[exchange.Kind]int{
			exchange.Consumer: must(t)(x.Consumer(1, spin, 1, a)),
			exchange.Worker:   some(t)(x.Pool(1, spin, 1, a))[0],
			exchange.Poller:   must(t)(x.Poller(1, spin, a)),
		}
		cursor(t, x, 1, 7)
		at(t, x, other, 1, 1)
		for _, k := range holders[:3] {
			who := kinds[k]
			for v := range int64(7) {
				at(t, x, a, 1, v)
				for w := range int64(7) {
					if at(t, x, who, 1, w); w > v {
						finds(t, x, audit.Finding{Rule: audit.Ahead, Who: who, Ring: 1})
					} else {
						finds(t, x)
					}
				}
				at(t, x, who, 1, -1)
			}
		}
	}
}

// P24.1: Ahead: only from its start on: ahead of that it has what the cursor had when it was made.
func TestAheadStart(t *testing.T) {
	x := made(t, 8, room.Single)
	a := must(t)(x.Consumer(0, spin, 1))
	sent(t, x, 0, 5)
	who := must(t)(x.Consumer(0, spin, 1, a))
	if x.Start(who, 0) != 5 {
		t.Fatal(x.Start(who, 0))
	}
	finds(t, x)
	at(t, x, who, 0, 3)
	finds(t, x)
	cursor(t, x, 0, 7)
	at(t, x, who, 0, 5)
	finds(t, x, audit.Finding{Rule: audit.Ahead, Who: who})
	at(t, x, a, 0, 4)
	finds(t, x, audit.Finding{Rule: audit.Ahead, Who: who})
	at(t, x, a, 0, 5)
	finds(t, x)
}

// P24.1: Ahead: of all that one is behind, directly or by others; of each rule it is found once.
func TestAheadFar(t *testing.T) {
	x := made(t, 16, room.Single)
	a := must(t)(x.Consumer(0, spin, 1))
	b := must(t)(x.Poller(0, spin, a))
	c := must(t)(x.Consumer(0, spin, 1, b))
	d := must(t)(x.Consumer(0, spin, 1, a, c))
	cursor(t, x, 0, 9)
	for who, v := range map[int]int64{a: 4, b: -1, c: 4, d: 4} {
		at(t, x, who, 0, v)
	}
	finds(t, x, audit.Finding{Rule: audit.Ahead, Who: c}, audit.Finding{Rule: audit.Ahead, Who: d})
	at(t, x, b, 0, 9)
	finds(t, x, audit.Finding{Rule: audit.Ahead, Who: b})
	at(t, x, c, 0, 5)
	at(t, x, d, 0, 5)
	finds(t, x, audit.Finding{Rule: audit.Ahead, Who: b}, audit.Finding{Rule: audit.Ahead, Who: c}, audit.Finding{Rule: audit.Ahead, Who: d})
	at(t, x, a, 0, 9)
	finds(t, x)
	at(t, x, c, 0, 4)
	finds(t, x, audit.Finding{Rule: audit.Ahead, Who: d})
}

// P24.1: Ahead: behind a pool is behind each worker's own cell; what all share is nobody's; who is Free is no limit.
func TestAheadPool(t *testing.T) {
	x := made(t, 8, room.Multi)
	l := some(t)(x.Pool(0, spin, 3))
	c := must(t)(x.Consumer(0, spin, 1, l[1]))
	w := some(t)(x.Pool(0, spin, 2, c))
	cursor(t, x, 0, 7)
	at(t, x, c, 0, 3)
	for i := range l {
		for j, who := range l {
			at(t, x, who, 0, []int64{3, 2}[one(i == j)])
		}
		finds(t, x, audit.Finding{Rule: audit.Ahead, Who: c})
		at(t, x, l[i], 0, pool.Free)
		finds(t, x)
		at(t, x, l[i], 0, 3)
		finds(t, x)
	}
	// Workers are behind by their own cells, and not behind each other.
	at(t, x, w[0], 0, 3)
	finds(t, x)
	at(t, x, w[1], 0, 4)
	finds(t, x, audit.Finding{Rule: audit.Ahead, Who: w[1]})
	at(t, x, c, 0, 2)
	finds(t, x, audit.Finding{Rule: audit.Ahead, Who: w[0]}, audit.Finding{Rule: audit.Ahead, Who: w[1]})
}

// one is 1 for true.
func one(ok bool) int {
	if ok {
		return 1
	}
	return 0
}

// P24.1: Ahead: who was removed is behind nobody any more.
func TestAheadRemoved(t *testing.T) {
	x := made(t, 8, room.Single)
	a := must(t)(x.Consumer(0, spin, 1))
	c := must(t)(x.Consumer(0, spin, 1, a))
	cursor(t, x, 0, 5)
	at(t, x, c, 0, 2)
	finds(t, x, audit.Finding{Rule: audit.Ahead, Who: c})
	if _, e := x.Remove(c); e != nil {
		t.Fatal(e)
	}
	finds(t, x)
}

// P24.1: Gate: who hasn't left is in the ring's group, a chooser may be; who has left isn't, but a worker.
func TestGate(t *testing.T) {
	for _, g := range bothKinds {
		for _, k := range holders {
			x := made(t, 4, g, g)
			join(t, x, k, 0)
			who := join(t, x, k, 1)
			id, group := x.Cell(who, 1), x.Room().Gate(1)
			bad := audit.Finding{Rule: audit.Gate, Who: who, Ring: 1}
			done(t, group.Drop(id))
			if k == exchange.Chooser {
				finds(t, x)
			} else {
				finds(t, x, bad)
			}
			done(t, group.Add(id))
			finds(t, x)
			if k == exchange.Worker {
				done(t, x.Alert(who))
			} else if _, e := x.Remove(who); e != nil {
				t.Fatal(e)
			}
			for i := 0; !x.Left(who); i++ {
				steps(t, x, who, 1)
				finds(t, x)
			}
			if settle(t, x, who); k == exchange.Worker {
				finds(t, x)
				done(t, group.Drop(id))
				finds(t, x, bad)
				continue
			}
			finds(t, x)
			done(t, group.Add(id))
			finds(t, x, bad)
		}
	}
}

// P24.1: Gate: a chooser that hasn't left all its rings may be in the groups of some.
func TestGateChooser(t *testing.T) {
	x := made(t, 4, room.Single, room.Multi, room.Single)
	who := must(t)(x.Chooser(2, 0, 1))
	if _, e := x.Remove(who); e != nil {
		t.Fatal(e)
	}
	for i := 0; x.State(who) != actor.Halted; i++ {
		steps(t, x, who, 1)
		finds(t, x)
		if !x.Left(who) {
			continue
		}
		for ring := range 3 {
			done(t, x.Room().Gate(ring).Add(x.Cell(who, ring)))
			finds(t, x, audit.Finding{Rule: audit.Gate, Who: who, Ring: ring})
			done(t, x.Room().Gate(ring).Drop(x.Cell(who, ring)))
		}
	}
	for _, ring := range []int{1, 0, 2} {
		done(t, x.Room().Gate(ring).Add(x.Cell(who, ring)))
	}
	// As the rings were named.
	finds(t, x, audit.Finding{Rule: audit.Gate, Who: who, Ring: 2}, audit.Finding{Rule: audit.Gate, Who: who}, audit.Finding{Rule: audit.Gate, Who: who, Ring: 1})
}

// P24.1: Gate: one that is Halted, and hasn't left, holds back.
func TestGateHalted(t *testing.T) {
	x := made(t, 4, room.Multi)
	c, p := must(t)(x.Consumer(0, block, 1)), must(t)(x.Poller(0, block))
	for _, who := range []int{c, p} {
		done(t, x.Drain(who))
		settle(t, x, who)
		if x.State(who) != actor.Halted || x.Left(who) {
			t.Fatal(who)
		}
		finds(t, x)
		done(t, x.Room().Gate(0).Drop(x.Cell(who, 0)))
		finds(t, x, audit.Finding{Rule: audit.Gate, Who: who})
		done(t, x.Room().Gate(0).Add(x.Cell(who, 0)))
	}
}

// P24.1: Calls: who is Halted has no call; the finding has no ring.
func TestCalls(t *testing.T) {
	x := made(t, 4, room.Single, room.Multi)
	send := func(who int) error { return x.Send(who, api.Event{}) }
	offer := func(who int) error { return x.Offer(who, api.Event{}) }
	poll := func(who int) error { return x.Poll(who, 1) }
	choose := func(who int) error { return x.Select(who, 0) }
	var want []audit.Finding
	for _, c := range []struct {
		who  int
		call func(int) error
	}{
		{must(t)(x.Producer(1, block)), send},
		{must(t)(x.Producer(1, block)), offer},
		{must(t)(x.Poller(1, block)), poll},
		{must(t)(x.Poller(1, block)), x.Receive},
		{must(t)(x.Chooser(1, 0)), choose},
	} {
		done(t, c.call(c.who))
		done(t, c.call(c.who))
		finds(t, x, want...)
		done(t, x.Room().Halt(c.who))
		want = append(want, audit.Finding{Rule: audit.Calls, Who: c.who})
		finds(t, x, want...)
	}
	for _, who := range []int{
		must(t)(x.Producer(0, spin)), must(t)(x.Poller(0, spin)), must(t)(x.Chooser(0)), must(t)(x.Consumer(0, spin, 1)), some(t)(x.Pool(0, spin, 1))[0],
	} {
		done(t, x.Room().Halt(who))
		finds(t, x, want...)
	}
}

// P24.1: Timers: there are as many as actors that are Parked, and no more.
func TestTimers(t *testing.T) {
	bad := audit.Finding{Rule: audit.Timers}
	x := made(t, 4, room.Single)
	c, p := must(t)(x.Consumer(0, timed, 1)), must(t)(x.Producer(0, block))
	settle(t, x, c)
	if x.State(c) != actor.Parked || x.Room().Clock().Waiting() != 1 {
		t.Fatal(x.State(c), x.Room().Clock().Waiting())
	}
	finds(t, x)
	done(t, x.Room().Clock().Set(9, p))
	finds(t, x, bad)
	// One more that is Parked, without a timer of its own.
	settle(t, x, p)
	finds(t, x)
	done(t, x.Room().Clock().Set(9, 63))
	finds(t, x, bad)
	if _, e := x.Tick(9); e != nil || x.State(c) != actor.Ready {
		t.Fatal(e)
	}
	finds(t, x)
	settle(t, x, c)
	// Woken behind the room's back.
	if _, e := x.Room().Actors().Wake(c); e != nil {
		t.Fatal(e)
	}
	finds(t, x, bad)
	if x.Room().Clock().Drop(c) != 1 {
		t.Fatal("no timer")
	}
	finds(t, x)
}

// P24.1: Timers: without an actor there is no timer.
func TestTimersAlone(t *testing.T) {
	x := exchange.New()
	done(t, x.Room().Clock().Set(1, 0))
	finds(t, x, audit.Finding{Rule: audit.Timers})
	must(t)(x.Ring(2, room.Single))
	who := must(t)(x.Consumer(0, spin, 1))
	finds(t, x, audit.Finding{Rule: audit.Timers})
	done(t, x.Room().Halt(who))
	done(t, x.Room().Clock().Set(1, 0))
	finds(t, x, audit.Finding{Rule: audit.Timers})
}

// P24.1: a producer has no cell: of it only its calls are looked at.
func TestProducers(t *testing.T) {
	x := made(t, 2, room.Multi)
	for range 3 {
		must(t)(x.Producer(0, spin))
	}
	for _, v := range []int64{-1, 0, 99, math.MinInt64, math.MaxInt64} {
		cursor(t, x, 0, v)
		finds(t, x)
	}
}

// P24.1: by rising actors, of each ring by ring as its rings were named, of each ring by rising rules, then its calls; timers at the end.
func TestOrder(t *testing.T) {
	x := made(t, 2, room.Multi, room.Single, room.Multi)
	h := must(t)(x.Chooser(2, 0, 1))
	a := must(t)(x.Consumer(1, spin, 1))
	c := must(t)(x.Poller(1, spin, a))
	p := must(t)(x.Producer(0, spin))
	l := some(t)(x.Pool(0, spin, 2))
	done(t, x.Select(h, 0))
	done(t, x.Receive(c))
	done(t, x.Send(p, api.Event{}))
	for _, who := range []int{c, p, h} {
		done(t, x.Room().Halt(who))
	}
	for ring, v := range []int64{40, 20, 30} {
		cursor(t, x, ring, v)
	}
	at(t, x, h, 2, 31)
	at(t, x, h, 1, 21)
	at(t, x, c, 1, 21)
	at(t, x, a, 1, 18)
	done(t, x.Room().Gate(1).Drop(x.Cell(c, 1)))
	done(t, x.Room().Gate(0).Drop(x.Cell(l[1], 0)))
	at(t, x, l[1], 0, 41)
	done(t, x.Room().Clock().Set(1, 0))
	finds(t, x,
		audit.Finding{Rule: audit.Over, Who: h, Ring: 2},
		audit.Finding{Rule: audit.Room, Who: h, Ring: 0},
		audit.Finding{Rule: audit.Over, Who: h, Ring: 1},
		audit.Finding{Rule: audit.Calls, Who: h},
		audit.Finding{Rule: audit.Over, Who: c, Ring: 1},
		audit.Finding{Rule: audit.Ahead, Who: c, Ring: 1},
		audit.Finding{Rule: audit.Gate, Who: c, Ring: 1},
		audit.Finding{Rule: audit.Calls, Who: c},
		audit.Finding{Rule: audit.Calls, Who: p},
		audit.Finding{Rule: audit.Room, Who: l[0], Ring: 0},
		audit.Finding{Rule: audit.Over, Who: l[1], Ring: 0},
		audit.Finding{Rule: audit.Gate, Who: l[1], Ring: 0},
		audit.Finding{Rule: audit.Timers},
	)
}

// P24.1: Room and Ahead may be found of one at once: who is behind a worker that lags.
func TestRoomAhead(t *testing.T) {
	x := made(t, 2, room.Single)
	l := some(t)(x.Pool(0, spin, 1))
	c := must(t)(x.Consumer(0, spin, 1, l[0]))
	cursor(t, x, 0, 9)
	at(t, x, c, 0, 6)
	finds(t, x, audit.Finding{Rule: audit.Room, Who: l[0]}, audit.Finding{Rule: audit.Room, Who: c}, audit.Finding{Rule: audit.Ahead, Who: c})
	at(t, x, l[0], 0, 8)
	finds(t, x, audit.Finding{Rule: audit.Room, Who: c})
}

// P24.1, R3: what is handed out is new each time.
func TestNew(t *testing.T) {
	x := made(t, 2, room.Single)
	who := must(t)(x.Consumer(0, spin, 1))
	at(t, x, who, 0, 1)
	audit.Check(x)[0] = audit.Finding{}
	finds(t, x, audit.Finding{Rule: audit.Over, Who: who})
	audit.Lags(x, 0)[0] = audit.Lag{}
	if l := audit.Lags(x, 0); !slices.Equal(l, []audit.Lag{{Who: who, By: -2}}) {
		t.Fatal(l)
	}
}

// R5: others in the room, who aren't of the exchange, are passed over.
func TestStrangers(t *testing.T) {
	x := made(t, 2, room.Single)
	stranger, ids, e := x.Room().Join(9)
	done(t, e)
	done(t, x.Room().Gate(0).Add(ids[0]))
	done(t, x.Room().Halt(stranger))
	finds(t, x)
	who := must(t)(x.Consumer(0, spin, 1))
	at(t, x, who, 0, 3)
	finds(t, x, audit.Finding{Rule: audit.Over, Who: who})
	if l := audit.Lags(x, 0); !slices.Equal(l, []audit.Lag{{Who: who, By: -4}}) {
		t.Fatal(l)
	}
}
