package runner_test

import (
	"math"
	"noria/actor"
	"noria/api"
	"noria/barrier"
	"noria/pool"
	"noria/runner"
	"slices"
	"testing"
)

// store lets an actor's cell at a ring have a number, as nobody but itself may.
func store(t *testing.T, r *runner.Runner, who, ring int, n int64) {
	t.Helper()
	x := r.Exchange()
	if e := x.Room().Arena().Store(x.Cell(who, ring), n); e != nil {
		t.Fatal(e)
	}
}

// over wants all to be at rest, or not, and to ask to be no step.
func over(t *testing.T, r *runner.Runner, want bool) {
	t.Helper()
	steps := r.Exchange().Room().Arena().Steps()
	if got := r.Over(); got != want || r.Exchange().Room().Arena().Steps() != steps {
		t.Fatal(got, r.Notes())
	}
	if n, ok := r.Settle(0); n != 0 || ok != want {
		t.Fatal(n, ok)
	}
}

// free wants nobody to hold up, or somebody, and to ask to be no step.
func free(t *testing.T, r *runner.Runner, want bool) {
	t.Helper()
	steps := r.Exchange().Room().Arena().Steps()
	if got := r.Free(); got != want || r.Exchange().Room().Arena().Steps() != steps {
		t.Fatal(got, r.Notes())
	}
}

// bothKinds are lines that make a ring of one, or of many.
func bothKinds(n int) []runner.Op { return []runner.Op{ring(n), many(n)} }

// P21.3: a call that hasn't ended keeps from rest, of whom it is.
func TestOverCalls(t *testing.T) {
	for _, g := range bothKinds(2) {
		asks := []struct{ who, call runner.Op }{
			{producer(0, block), send(0, 7)}, {producer(0, block), offer(0, 7)}, {poller(0, block), poll(0, 1)},
			{poller(0, spin), on(runner.Receive, 0)}, {chooser(0), on(runner.Select, 0)},
		}
		for i, a := range asks {
			r := ran(t, g, a.who)
			over(t, r, true)
			played(t, r, a.call)
			for over(t, r, false); r.Exchange().Pending(0) > 0; over(t, r, r.Exchange().Pending(0) == 0) {
				// A Receive of nothing ends when it is told to.
				if single(t, r, 0); r.Steps() == 20 {
					played(t, r, on(runner.Alert, 0))
				}
			}
			if i == 3 && r.Steps() < 20 {
				t.Fatal(r.Steps())
			}
			// Calls that come behind one that has ended.
			if i != 3 {
				played(t, r, a.call, a.call)
				until(t, r, 0, api.Returned)
				over(t, r, false)
				until(t, r, 0, api.Returned)
				over(t, r, true)
			}
		}
	}
}

// P21.3: a consumer keeps from rest as long as the index behind what its cell has is published, handled or not, and as long as it isn't Halted.
func TestOverConsumer(t *testing.T) {
	for _, g := range bothKinds(4) {
		r := ran(t, g, consumer(0, block, 2), producer(0, block), send(1, 7, 8, 9))
		until(t, r, 1, api.Returned)
		for range 2 {
			over(t, r, false)
			until(t, r, 0, api.Handled)
			over(t, r, false)
			until(t, r, 0, api.Moved)
		}
		over(t, r, true)
		played(t, r, send(1, 1))
		until(t, r, 1, api.Returned)
		over(t, r, false)
		played(t, r, on(runner.Alert, 0))
		over(t, r, false)
		rest(t, r, 0)
		if over(t, r, true); r.Exchange().State(0) != actor.Halted {
			t.Fatal(r.Exchange().State(0))
		}
		// It had left what another one, that isn't Halted, leaves too.
		played(t, r, consumer(0, block, 1))
		over(t, r, true)
		store(t, r, 2, 0, 1)
		over(t, r, false)
		played(t, r, on(runner.Remove, 2))
		until(t, r, 2, api.Left)
		over(t, r, false)
		rest(t, r, 2)
		over(t, r, true)
	}
}

// P21.3: what is published counts, not what is claimed, nor what is published behind a hole, and in which round.
func TestOverPublished(t *testing.T) {
	r := ran(t, many(2), consumer(0, block, 1))
	g := r.Exchange().Room()
	claim := func(n int) {
		c, e := g.Claim(0, n)
		for ; e == nil && !c.Done(); c, e = c.Step() {
		}
		if e != nil || c.Full() {
			t.Fatal(e)
		}
	}
	show := func(seq int64) {
		if _, e := g.Show(0, seq, seq); e != nil {
			t.Fatal(e)
		}
	}
	claim(2)
	over(t, r, true)
	show(1)
	over(t, r, true)
	show(0)
	over(t, r, false)
	store(t, r, 0, 0, 1)
	over(t, r, true)
	claim(2)
	over(t, r, true)
	show(3)
	over(t, r, true)
	show(2)
	over(t, r, false)
	store(t, r, 0, 0, 2)
	over(t, r, false)
	store(t, r, 0, 0, 3)
	over(t, r, true)
	// What is in a slot is that of its round alone.
	store(t, r, 0, 0, -1)
	over(t, r, true)
	// What is shown counts only as far as it is claimed.
	store(t, r, 0, 0, 2)
	if e := g.Arena().Store(g.Cursor(0), 2); e != nil {
		t.Fatal(e)
	}
	over(t, r, true)
	if e := g.Arena().Store(g.Cursor(0), 3); e != nil {
		t.Fatal(e)
	}
	over(t, r, false)
}

// P21.3: whatever a cell has: there is no index behind Free, nor one that isn't from 0 to MaxSeq.
func TestOverAnyCell(t *testing.T) {
	for _, g := range bothKinds(2) {
		for _, maker := range []runner.Op{consumer(0, spin, 1), workers(0, spin, 1)} {
			r := ran(t, g, producer(0, block), maker, send(0, 7))
			until(t, r, 0, api.Returned)
			wants := map[int64]bool{-1: false, 0: true, 1: true, -2: true, -3: true, math.MinInt64: true, pool.Free: true, pool.Free - 1: true, api.MaxSeq: true, api.MaxSeq - 1: true}
			for n, want := range wants {
				store(t, r, 1, 0, n)
				over(t, r, want)
			}
			// Nothing is published that high, but the cursor may have it.
			if e := r.Exchange().Room().Arena().Store(r.Exchange().Room().Cursor(0), math.MaxInt64); e != nil {
				t.Fatal(e)
			}
			for n, want := range wants {
				store(t, r, 1, 0, n)
				over(t, r, want)
			}
		}
	}
}

// P21.3: a worker keeps from rest as long as the index behind what its own cell has is published, though another one took it, but not when its cell is Free.
func TestOverWorker(t *testing.T) {
	for _, g := range bothKinds(4) {
		r := ran(t, g, producer(0, block), workers(0, block, 2), send(0, 7))
		rest(t, r, 1)
		rest(t, r, 2)
		until(t, r, 0, api.Returned)
		over(t, r, false)
		until(t, r, 1, api.Handled)
		over(t, r, false)
		until(t, r, 1, api.Moved)
		over(t, r, false)
		until(t, r, 2, api.Moved)
		over(t, r, true)
		played(t, r, send(0, 8))
		until(t, r, 0, api.Returned)
		played(t, r, on(runner.Alert, 1), on(runner.Alert, 2))
		rest(t, r, 1)
		over(t, r, false)
		until(t, r, 2, api.Left)
		if over(t, r, true); r.Exchange().State(2) != actor.Ready {
			t.Fatal(r.Exchange().State(2))
		}
		rest(t, r, 2)
		over(t, r, true)
	}
}

// P21.3: who asks keeps from rest by its calls alone, however far it is behind; who sends, too.
func TestOverAskers(t *testing.T) {
	r := ran(t, many(4), producer(0, block), poller(0, block), chooser(0), send(0, 7, 8))
	until(t, r, 0, api.Returned)
	over(t, r, true)
	played(t, r, poll(1, 1))
	over(t, r, false)
	until(t, r, 1, api.Returned)
	over(t, r, true)
	// One that is Halted has no call.
	played(t, r, on(runner.Receive, 1), on(runner.Receive, 1), on(runner.Remove, 1), on(runner.Drain, 0))
	over(t, r, false)
	rest(t, r, 1)
	rest(t, r, 0)
	if over(t, r, true); r.Exchange().State(1) != actor.Halted || r.Exchange().State(0) != actor.Halted {
		t.Fatal(r.Exchange().State(1))
	}
}

// P21.3: a poller, a chooser holds up till it has left.
func TestFreeAskers(t *testing.T) {
	for _, maker := range []runner.Op{poller(0, block), chooser(1, 0)} {
		r := ran(t, many(2), many(2), consumer(0, block, 1))
		free(t, r, true)
		played(t, r, maker)
		free(t, r, false)
		rest(t, r, 1)
		free(t, r, false)
		played(t, r, on(runner.Remove, 1))
		for free(t, r, false); !r.Exchange().Left(1); free(t, r, r.Exchange().Left(1)) {
			single(t, r, 1)
		}
		if r.Exchange().State(1) != actor.Ready {
			t.Fatal("it has stopped")
		}
		rest(t, r, 1)
		free(t, r, true)
	}
	// One that stopped without leaving holds up, till it is removed.
	r := ran(t, many(2), poller(0, block), on(runner.Drain, 0))
	rest(t, r, 0)
	free(t, r, false)
	played(t, r, on(runner.Remove, 0))
	free(t, r, true)
}

// P21.3: a consumer holds up while it is told to stop, or Halted, unless it has left; one that has begun to end, too, though it isn't told any more.
func TestFreeConsumer(t *testing.T) {
	for _, d := range []runner.Deed{runner.Alert, runner.Drain} {
		r := ran(t, many(2), consumer(0, block, 1))
		rest(t, r, 0)
		played(t, r, on(d, 0))
		free(t, r, false)
		played(t, r, on(runner.Clear, 0))
		free(t, r, true)
		rest(t, r, 0)
		// From the reading of the alert on, it may end.
		played(t, r, on(d, 0))
		for !r.Exchange().Ends(0) {
			single(t, r, 0)
		}
		played(t, r, on(runner.Clear, 0))
		if free(t, r, false); r.Exchange().Told(0) != barrier.Quiet {
			t.Fatal(r.Exchange().Told(0))
		}
		rest(t, r, 0)
		if free(t, r, false); r.Exchange().State(0) != actor.Halted {
			t.Fatal(r.Exchange().State(0))
		}
		played(t, r, on(runner.Remove, 0))
		free(t, r, true)
		// One that leaves holds up till then, though it hasn't stopped.
		played(t, r, consumer(0, block, 1), on(runner.Remove, 1))
		free(t, r, false)
		until(t, r, 1, api.Left)
		if free(t, r, true); r.Exchange().State(1) != actor.Ready || r.Exchange().Told(1) == barrier.Quiet {
			t.Fatal(r.Exchange().State(1))
		}
		rest(t, r, 1)
		free(t, r, true)
	}
}

// P21.3: a worker holds up while it is told to stop, and for good when it has.
func TestFreeWorker(t *testing.T) {
	for _, d := range []runner.Deed{runner.Alert, runner.Drain} {
		r := ran(t, many(2), workers(0, block, 2))
		rest(t, r, 1)
		free(t, r, true)
		played(t, r, on(d, 1))
		free(t, r, false)
		played(t, r, on(runner.Clear, 1))
		free(t, r, true)
		rest(t, r, 1)
		played(t, r, on(d, 1))
		for !r.Exchange().Ends(1) {
			single(t, r, 1)
		}
		played(t, r, on(runner.Clear, 1))
		free(t, r, false)
		until(t, r, 1, api.Left)
		free(t, r, false)
		rest(t, r, 1)
		if free(t, r, false); r.Exchange().State(1) != actor.Halted || !r.Exchange().Left(1) {
			t.Fatal(r.Exchange().State(1))
		}
	}
}

// P21.3: who handles by itself and is Halted holds up, though it was never told to stop; who sends doesn't.
func TestFreeHalted(t *testing.T) {
	for i, maker := range []runner.Op{consumer(0, block, 1), workers(0, block, 1), producer(0, block)} {
		r := ran(t, many(2), maker)
		rest(t, r, 0)
		free(t, r, true)
		if e := r.Exchange().Room().Halt(0); e != nil || r.Exchange().Ends(0) {
			t.Fatal(i, e)
		}
		free(t, r, i == 2)
	}
}

// P21.3: a producer holds up while it is told to stop, but not when it has.
func TestFreeProducer(t *testing.T) {
	for _, d := range []runner.Deed{runner.Alert, runner.Drain} {
		r := ran(t, many(2), producer(0, block), producer(0, block))
		rest(t, r, 0)
		free(t, r, true)
		played(t, r, on(d, 0))
		free(t, r, false)
		rest(t, r, 0)
		if free(t, r, d == runner.Drain); (r.Exchange().State(0) == actor.Halted) != (d == runner.Drain) {
			t.Fatal(r.Exchange().State(0))
		}
		if d == runner.Alert {
			played(t, r, on(runner.Clear, 0))
		}
		free(t, r, true)
		played(t, r, on(d, 1))
		free(t, r, false)
	}
}

// bound is what Bound is to be, by what it is reckoned from.
func bound(actors, sent, calls, slots int) int {
	return 4 * (actors + 1) * (sent + 65*(calls+1)) * (4*slots + 400)
}

// P21.4: of how many actors, events, calls and slots there are.
func TestBound(t *testing.T) {
	r := runner.New()
	want := func(actors, sent, calls, slots int) {
		t.Helper()
		steps := r.Exchange().Room().Arena().Steps()
		if got := r.Bound(); got != bound(actors, sent, calls, slots) || r.Exchange().Room().Arena().Steps() != steps {
			t.Fatal(got, bound(actors, sent, calls, slots))
		}
	}
	want(0, 0, 0, 1)
	played(t, r, many(1))
	want(0, 0, 0, 1)
	played(t, r, ring(4), many(2))
	want(0, 0, 0, 4)
	played(t, r, producer(0, spin), producer(1, block), consumer(1, block, 1), workers(2, block, 3), chooser(2, 1), poller(1, block))
	want(8, 0, 0, 4)
	played(t, r, send(0, 1), send(1, 1, 2, 3), offer(1, 4), poll(7, 2), on(runner.Receive, 7), on(runner.Select, 6))
	want(8, 0, 6, 4)
	until(t, r, 0, api.Returned)
	want(8, 1, 5, 4)
	// What isn't published yet of a ring of one isn't claimed, as its cursor has it.
	for range 3 {
		single(t, r, 1)
	}
	want(8, 1, 5, 4)
	until(t, r, 1, api.Returned)
	want(8, 4, 4, 4)
	until(t, r, 1, api.Returned)
	want(8, 5, 3, 4)
	played(t, r, on(runner.Remove, 7))
	rest(t, r, 7)
	want(8, 5, 1, 4)
	rest(t, r, 6)
	want(8, 5, 0, 4)
	played(t, r, on(runner.Drain, 1))
	rest(t, r, 1)
	want(8, 5, 0, 4)
	played(t, r, ring(1<<20))
	want(8, 5, 0, 1<<20)
}

// P21.4: events of all rings count, 2^20 at most, whatever cursors have.
func TestBoundSent(t *testing.T) {
	const most = 1 << 20
	wants := []struct {
		cursors []int64
		sent    int
	}{
		{[]int64{-1, -1}, 0}, {[]int64{0, -1}, 1}, {[]int64{3, 4}, 9}, {[]int64{most - 2, -1}, most - 1}, {[]int64{most - 1, -1}, most},
		{[]int64{most, -1}, most}, {[]int64{-1, most}, most}, {[]int64{most/2 - 1, most/2 - 2}, most - 1}, {[]int64{most/2 - 1, most/2 - 1}, most},
		{[]int64{most / 2, most / 2}, most}, {[]int64{api.MaxSeq, -1}, most}, {[]int64{math.MaxInt64, math.MaxInt64}, most}, {[]int64{math.MaxInt64, -1, 7}, most},
		{slices.Repeat([]int64{math.MaxInt64}, api.MaxRings), most}, {slices.Repeat([]int64{5}, api.MaxRings), 48},
	}
	for i, w := range wants {
		r := runner.New()
		for k, n := range w.cursors {
			played(t, r, bothKinds(8)[(i+k)%2])
			if g := r.Exchange().Room(); g.Arena().Store(g.Cursor(k), n) != nil {
				t.Fatal(i, k)
			}
		}
		if got := r.Bound(); got != bound(0, w.sent, 0, 8) {
			t.Fatal(i, got, bound(0, w.sent, 0, 8))
		}
	}
}

// P21.4: as much as there may be of all.
func TestBoundMost(t *testing.T) {
	r := ran(t, many(2), ring(1<<20))
	for who := range api.MaxActors {
		played(t, r, producer(0, block))
		for range api.MaxCalls {
			played(t, r, send(who, 7))
		}
	}
	if g := r.Exchange().Room(); g.Arena().Store(g.Cursor(1), math.MaxInt64) != nil {
		t.Fatal("no cell")
	}
	if got := r.Bound(); got != bound(64, 1<<20, 4096, 1<<20) || got != 4*65*(1<<20+65*4097)*(1<<22+400) {
		t.Fatal(got)
	}
}
