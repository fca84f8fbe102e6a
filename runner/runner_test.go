package runner_test

import (
	"errors"
	"math"
	"noria/actor"
	"noria/api"
	"noria/barrier"
	"noria/exchange"
	"noria/fault"
	"noria/runner"
	"noria/wait"
	"slices"
	"testing"
)

// edges are numbers near the ends of their type, and near the bounds that the document names.
var edges = []int{math.MinInt, -2, -1, 0, 1, 2, 7, 8, 16, 17, 63, 64, 65, math.MaxInt}

// The ways of waiting.
var (
	spin  = wait.Way{Kind: wait.Spin}
	yield = wait.Way{Kind: wait.Yield, Tries: 2}
	block = wait.Way{Kind: wait.Block}
	timed = wait.Way{Kind: wait.Timed, Time: 4}
	all   = []wait.Way{spin, yield, block, timed}
)

// The lines that tests are made of.

func ring(n int) runner.Op { return runner.Op{Do: runner.MakeRing, N: n} }

func many(n int) runner.Op { return runner.Op{Do: runner.MakeRing, N: n, Ring: 1} }

func producer(ring int, w wait.Way) runner.Op {
	return runner.Op{Do: runner.MakeProducer, Ring: ring, Way: w}
}

func consumer(ring int, w wait.Way, n int, after ...int) runner.Op {
	return runner.Op{Do: runner.MakeConsumer, Ring: ring, Way: w, N: n, After: after}
}

func workers(ring int, w wait.Way, n int, after ...int) runner.Op {
	return runner.Op{Do: runner.MakePool, Ring: ring, Way: w, N: n, After: after}
}

func poller(ring int, w wait.Way, after ...int) runner.Op {
	return runner.Op{Do: runner.MakePoller, Ring: ring, Way: w, After: after}
}

func chooser(rings ...int) runner.Op { return runner.Op{Do: runner.MakeChooser, After: rings} }

func send(who int, keys ...int64) runner.Op {
	return runner.Op{Do: runner.Send, Who: who, L: events(keys...)}
}

func offer(who int, keys ...int64) runner.Op {
	return runner.Op{Do: runner.Offer, Who: who, L: events(keys...)}
}

func poll(who, n int) runner.Op { return runner.Op{Do: runner.Poll, Who: who, N: n} }

// on is a line that names an actor alone.
func on(d runner.Deed, who int) runner.Op { return runner.Op{Do: d, Who: who} }

func tick(at int64) runner.Op { return runner.Op{Do: runner.Tick, At: at} }

func pick(n int) runner.Op { return runner.Op{Do: runner.Pick, N: n} }

// events are some of these keys.
func events(keys ...int64) []api.Event {
	var l []api.Event
	for _, k := range keys {
		l = append(l, api.Event{Key: k, Val: -k})
	}
	return l
}

// ran is a runner of which all these lines were well.
func ran(t *testing.T, l ...runner.Op) *runner.Runner {
	t.Helper()
	r := runner.New()
	played(t, r, l...)
	return r
}

// played wants lines to be well.
func played(t *testing.T, r *runner.Runner, l ...runner.Op) {
	t.Helper()
	for i, o := range l {
		if e := r.Do(o); e != nil {
			t.Fatal(i, o, e)
		}
	}
}

// until lets an actor step, and nobody else, till a deed is seen.
func until(t *testing.T, r *runner.Runner, who int, d api.Deed) {
	t.Helper()
	for range 999 {
		was := len(r.Notes())
		single(t, r, who)
		if l := r.Notes(); len(l) > was && l[was].Who == who && l[was].Deed == d {
			return
		}
	}
	t.Fatal(who, d, "isn't seen")
}

// single lets one actor step by a pick.
func single(t *testing.T, r *runner.Runner, who int) {
	t.Helper()
	place := slices.Index(r.Exchange().Room().Actors().Runnable(), who)
	if got, ok := r.Pick(place); place < 0 || !ok || got != who {
		t.Fatal(who, place, got, ok)
	}
}

// rest lets an actor step till it isn't Ready any more.
func rest(t *testing.T, r *runner.Runner, who int) {
	t.Helper()
	for i := 0; r.Exchange().State(who) == actor.Ready; i++ {
		if single(t, r, who); i > 999 {
			t.Fatal(who, "doesn't rest")
		}
	}
}

// one is 1 for true.
func one(ok bool) int64 {
	if ok {
		return 1
	}
	return 0
}

// stands is how one who is an actor stands.
func stands(x *exchange.Exchange, who int) []int64 {
	k, ok := x.Kind(who)
	g := x.Room()
	l := []int64{int64(k), one(ok), int64(x.Pending(who)), one(x.Left(who)), x.Told(who), one(x.Ends(who))}
	l = append(l, int64(x.State(who)), one(g.Actors().Token(who)), int64(g.Actors().Wakes(who)))
	for ring := range g.Rings() {
		l = append(l, int64(x.Cell(who, ring)), x.Start(who, ring))
	}
	for other := range g.Actors().Len() {
		l = append(l, one(x.Behind(who, other)))
	}
	return l
}

// sights is all that an exchange and its room tell without a step.
func sights(x *exchange.Exchange) []int64 {
	g := x.Room()
	next, _ := g.Clock().Next()
	l := []int64{int64(x.Len()), g.Clock().Now(), next, int64(g.Clock().Waiting()), int64(g.Arena().Len())}
	for who := range g.Actors().Len() {
		l = append(l, stands(x, who)...)
	}
	a := g.Arena().Clone()
	for id := range min(a.Len(), 300) {
		v, _ := a.Load(id)
		l = append(l, v)
	}
	for id := range g.Rings() {
		l = append(l, one(g.Many(id)), g.Slots(id).Size().Slots())
		for _, y := range append(g.Waiting(id), g.Gate(id).Cells()...) {
			l = append(l, int64(y))
		}
		for seq := range min(g.Slots(id).Size().Slots(), 64) {
			y, _ := g.Slots(id).Get(seq)
			l = append(l, y.Key, y.Val)
		}
	}
	return l
}

// told is all that a runner tells, and its exchange.
func told(r *runner.Runner) []int64 {
	l := append(sights(r.Exchange()), one(r.Over()), one(r.Free()), int64(r.Bound()), int64(r.Steps()))
	for _, n := range r.Notes() {
		l = append(l, int64(n.Who), int64(n.Ring), int64(n.Deed), n.Lo, n.Seq, n.X.Key, n.X.Val, int64(n.Code))
	}
	// Last: to ask was no step.
	return append(l, int64(r.Exchange().Room().Arena().Steps()))
}

// refused wants a line to be refused with this error, and nothing to have changed.
func refused(t *testing.T, r *runner.Runner, want api.Errno, o runner.Op) {
	t.Helper()
	was, after, l := told(r), slices.Clone(o.After), slices.Clone(o.L)
	if e := r.Do(o); !errors.Is(e, want) || !fault.Is(e, want) {
		t.Fatal(o, want, e)
	}
	if now := told(r); !slices.Equal(was, now) || !slices.Equal(after, o.After) || !slices.Equal(l, o.L) {
		t.Fatal(o, want, was, now)
	}
}

// deeds are those of some notes.
func deeds(l []api.Note) []api.Deed {
	var d []api.Deed
	for _, n := range l {
		d = append(d, n.Deed)
	}
	return d
}

// P21.1: a new runner has an empty exchange, its own.
func TestNew(t *testing.T) {
	r, s := runner.New(), runner.New()
	x := r.Exchange()
	if x == nil || x != r.Exchange() || x == s.Exchange() || x.Len() != 0 || x.Room().Rings() != 0 || x.Room().Arena().Len() != 0 {
		t.Fatal(x)
	}
	if len(r.Notes()) != 0 || r.Steps() != 0 || !r.Over() || !r.Free() || r.Bound() != 4*65*404 || r.Round() != 0 {
		t.Fatal(r.Notes(), r.Steps(), r.Over(), r.Free(), r.Bound())
	}
	if who, ok := r.Pick(0); who != 0 || ok || r.Run(1, 2, 3) != 0 {
		t.Fatal(who, ok)
	}
	if n, ok := r.Settle(9); n != 0 || !ok {
		t.Fatal(n, ok)
	}
}

// P21.1, example 1: all is at rest behind seven rounds.
func TestExample(t *testing.T) {
	r := ran(t, ring(2), consumer(0, block, 1), producer(0, block), send(1, 7))
	if n, ok := r.Settle(100); n != 7 || !ok {
		t.Fatal(n, ok)
	}
	x := api.Event{Key: 7, Val: -7}
	want := []api.Note{{Who: 1, Deed: api.Shown}, {Who: 1, Deed: api.Returned}, {Deed: api.Handled, X: x}, {Deed: api.Moved}}
	if !slices.Equal(r.Notes(), want) || !r.Over() || !r.Free() {
		t.Fatal(r.Notes())
	}
}

// P21.1: each line does what it says, by the fields that it names alone.
func TestDo(t *testing.T) {
	junk := runner.Op{Who: 1, Ring: 1, N: 2, At: 3, Way: block, After: []int{0}, L: events(1, 2)}
	do := func(d runner.Deed, who int) runner.Op {
		o := junk
		o.Do, o.Who = d, who
		return o
	}
	r := runner.New()
	x := r.Exchange()
	played(t, r, runner.Op{Do: runner.MakeRing, Who: 9, N: 4, At: -1, Way: wait.Way{Kind: 9}, After: []int{9}}, many(8))
	if g := x.Room(); g.Rings() != 2 || g.Many(0) || !g.Many(1) || g.Slots(0).Size().Slots() != 4 || g.Slots(1).Size().Slots() != 8 {
		t.Fatal(g.Rings())
	}
	played(t, r, consumer(1, spin, 3), do(runner.MakeProducer, 9), do(runner.MakeConsumer, 9), do(runner.MakePool, 9), do(runner.MakePoller, 9), chooser(1, 0))
	want := []exchange.Kind{exchange.Consumer, exchange.Producer, exchange.Consumer, exchange.Worker, exchange.Worker, exchange.Poller, exchange.Chooser}
	for who, k := range want {
		if got, ok := x.Kind(who); !ok || got != k || x.Rings(who)[0] != 1 || x.Behind(who, 0) != (who >= 2 && who < 6) {
			t.Fatal(who, got, ok, x.Rings(who))
		}
	}
	if x.Len() != 7 || !slices.Equal(x.Rings(6), []int{1, 0}) {
		t.Fatal(x.Len(), x.Rings(6))
	}
	played(t, r, do(runner.Send, 1), do(runner.Offer, 1), do(runner.Poll, 5), do(runner.Receive, 5), do(runner.Select, 6))
	if x.Pending(1) != 2 || x.Pending(5) != 2 || x.Pending(6) != 1 {
		t.Fatal(x.Pending(1), x.Pending(5), x.Pending(6))
	}
	for _, d := range []runner.Deed{runner.Alert, runner.Clear, runner.Drain} {
		played(t, r, do(d, 0))
		if got := x.Told(0); got != map[runner.Deed]int64{runner.Alert: barrier.Alerted, runner.Clear: barrier.Quiet, runner.Drain: barrier.Drain}[d] {
			t.Fatal(d, got)
		}
	}
	played(t, r, do(runner.Tick, 0))
	if x.Room().Clock().Now() != 3 || r.Steps() != 0 || len(r.Notes()) != 0 {
		t.Fatal(x.Room().Clock().Now(), r.Steps())
	}
	// The third one that is Ready.
	was := x.Room().Arena().Steps()
	played(t, r, do(runner.Pick, 0))
	if r.Steps() != 1 || x.Room().Arena().Steps() != was+1 {
		t.Fatal(r.Steps())
	}
	played(t, r, do(runner.Remove, 2))
	refused(t, r, api.ErrThere, do(runner.Remove, 2))
}

// P21.1: which calls those of senders and askers are, and with which numbers.
func TestAsks(t *testing.T) {
	r := ran(t, many(2), producer(0, block), poller(0, block), chooser(0), send(0, 5, 6), offer(0, 7), runner.Op{Do: runner.Select, Who: 2, N: -1})
	played(t, r, poll(1, 1), on(runner.Receive, 1), poll(1, 64), on(runner.Receive, 1))
	n, ok := r.Settle(99)
	if ok || n == 99 || r.Exchange().Pending(1) != 1 || r.Exchange().State(1) != actor.Parked {
		t.Fatal(n, ok)
	}
	var ends []api.Errno
	var keys []int64
	for _, n := range r.Notes() {
		if n.Deed == api.Returned && n.Who < 2 {
			ends = append(ends, n.Code)
		}
		if n.Deed == api.Handled && n.Who == 1 {
			keys = append(keys, n.X.Key)
		}
	}
	slices.Sort(ends)
	if !slices.Equal(keys, []int64{5, 6}) || !slices.Equal(ends, []api.Errno{0, 0, 0, api.ErrFull, api.ErrIdle}) {
		t.Fatal(keys, ends)
	}
}

// P21.1, errors: a deed that is none, whatever else the line has; Pick, where nobody is Ready.
func TestErrors(t *testing.T) {
	for _, r := range []*runner.Runner{runner.New(), ran(t, ring(2), producer(0, block), send(0, 7))} {
		for _, d := range edges {
			if d < 0 || d > 16 {
				refused(t, r, api.ErrArg, runner.Op{Do: runner.Deed(d), N: 2})
			}
		}
	}
	r := runner.New()
	for _, n := range edges {
		refused(t, r, api.ErrIdle, pick(n))
	}
	played(t, r, ring(2), producer(0, block))
	rest(t, r, 0)
	refused(t, r, api.ErrIdle, pick(0))
	played(t, r, on(runner.Drain, 0))
	rest(t, r, 0)
	refused(t, r, api.ErrIdle, pick(3))
	if r.Exchange().State(0) != actor.Halted {
		t.Fatal(r.Exchange().State(0))
	}
}

// P21.5, errors: a line has its call's errors, and changes nothing then.
func TestRefused(t *testing.T) {
	r := ran(t, ring(4), many(2), consumer(0, block, 1), producer(0, block), workers(0, block, 2, 0), poller(1, block), chooser(0, 1))
	refused(t, r, api.ErrSize, ring(3))
	refused(t, r, api.ErrSize, ring(0))
	refused(t, r, api.ErrArg, runner.Op{Do: runner.MakeRing, N: 2, Ring: 2})
	refused(t, r, api.ErrArg, runner.Op{Do: runner.MakeRing, N: 3, Ring: -1})
	refused(t, r, api.ErrBusy, producer(0, spin))
	refused(t, r, api.ErrNone, producer(2, spin))
	refused(t, r, api.ErrNone, consumer(2, spin, 1))
	refused(t, r, api.ErrArg, consumer(0, spin, 0))
	refused(t, r, api.ErrArg, consumer(0, spin, 65))
	refused(t, r, api.ErrThere, consumer(0, spin, 1, 2, 3))
	refused(t, r, api.ErrArg, workers(0, spin, 17))
	refused(t, r, api.ErrArg, workers(0, spin, 1, 1))
	refused(t, r, api.ErrNone, poller(0, spin, 7))
	refused(t, r, api.ErrRange, poller(0, wait.Way{Kind: wait.Timed}))
	refused(t, r, api.ErrArg, chooser())
	refused(t, r, api.ErrThere, chooser(0, 0))
	refused(t, r, api.ErrArg, send(0, 1))
	refused(t, r, api.ErrArg, send(1))
	refused(t, r, api.ErrArg, offer(1, 1, 2, 3, 4, 5))
	refused(t, r, api.ErrNone, offer(-1, 1))
	refused(t, r, api.ErrArg, poll(4, 0))
	refused(t, r, api.ErrArg, poll(5, 1))
	refused(t, r, api.ErrArg, on(runner.Receive, 5))
	refused(t, r, api.ErrArg, on(runner.Select, 4))
	for _, d := range []runner.Deed{runner.Alert, runner.Clear, runner.Drain, runner.Remove} {
		refused(t, r, api.ErrNone, on(d, 6))
	}
	refused(t, r, api.ErrBusy, on(runner.Remove, 0))
	refused(t, r, api.ErrArg, on(runner.Remove, 1))
	refused(t, r, api.ErrArg, tick(0))
	refused(t, r, api.ErrRange, tick(api.MaxTime+1))
	played(t, r, on(runner.Drain, 1))
	rest(t, r, 1)
	refused(t, r, api.ErrHalted, on(runner.Clear, 1))
	refused(t, r, api.ErrHalted, send(1, 7))
}

// P21.1: Play does all lines, those too that come behind one that has an error.
func TestPlay(t *testing.T) {
	r := runner.New()
	bad := r.Play(pick(0), ring(2), ring(3), producer(1, block), producer(0, block), send(0, 1), send(1, 1), runner.Op{Do: 17}, pick(0), pick(9))
	if bad != 5 || r.Steps() != 2 || r.Exchange().Len() != 1 || r.Exchange().Pending(0) != 1 || r.Play() != 0 {
		t.Fatal(bad, r.Steps())
	}
}

// P21.1: of nil as of an empty one, but for Do, and for Exchange; a zero one ends every call.
func TestNil(t *testing.T) {
	var r *runner.Runner
	for i, r := range []*runner.Runner{r, {}} {
		if r.Exchange() != nil || len(r.Notes()) != 0 || r.Steps() != 0 || !r.Over() || !r.Free() || r.Bound() != 4*65*404 || r.Round() != 0 || r.Run(0, 1) != 0 {
			t.Fatal(i, r.Exchange(), r.Notes(), r.Steps(), r.Over(), r.Free(), r.Bound())
		}
		for _, n := range edges {
			if who, ok := r.Pick(n); who != 0 || ok {
				t.Fatal(i, n, who, ok)
			}
			if k, ok := r.Settle(n); k != 0 || !ok {
				t.Fatal(i, n, k, ok)
			}
			e := r.Do(runner.Op{Do: runner.Deed(n), N: 2})
			if e == nil || i == 0 && !errors.Is(e, api.ErrNil) {
				t.Fatal(i, n, e)
			}
		}
		if bad := r.Play(ring(2), ring(4)); bad != 2 || r.Play() != 0 {
			t.Fatal(i, bad)
		}
	}
}

// P21.1: any number picks one that is Ready, as layer 5 says.
func TestPick(t *testing.T) {
	r := ran(t, many(2), producer(0, spin), producer(0, block), producer(0, spin), consumer(0, spin, 1), producer(0, spin))
	rest(t, r, 1)
	rest(t, r, 2)
	steps := r.Steps()
	for i, n := range edges {
		want, _ := r.Exchange().Room().Actors().Legal(n)
		if who, ok := r.Pick(n); !ok || who != want || r.Steps() != steps+i+1 {
			t.Fatal(n, who, want, ok, r.Steps())
		}
		// Those who send without a call would fall asleep.
		played(t, r, send(0, 1), send(4, 1))
	}
	if r.Run() != 0 || r.Run(0, -7, math.MaxInt) != 3 {
		t.Fatal(r.Steps())
	}
}

// P21.1: how many picks are steps, where nobody is Ready any more behind some of them.
func TestRun(t *testing.T) {
	r := ran(t, ring(2), producer(0, block))
	if n := r.Run(0, 5, 7, 9, 11); n != 2 || r.Steps() != 2 || r.Exchange().State(0) != actor.Parked {
		t.Fatal(n, r.Steps())
	}
}

// P21.1: notes are those that aren't Silent, of steps, and of Remove; what is handed out is new.
func TestNotes(t *testing.T) {
	r := ran(t, ring(2), consumer(0, block, 1), poller(0, block))
	for who := range 2 {
		played(t, r, on(runner.Drain, who))
		rest(t, r, who)
	}
	// Both are Halted, and leave at once.
	played(t, r, on(runner.Remove, 0), on(runner.Remove, 1), consumer(0, block, 1), on(runner.Remove, 2))
	want := []api.Note{
		{Deed: api.Stopped, Seq: -1}, {Who: 1, Deed: api.Stopped, Seq: -1}, {Deed: api.Left, Seq: -1}, {Who: 1, Deed: api.Left, Seq: -1},
	}
	if !slices.Equal(r.Notes(), want) {
		t.Fatal(r.Notes())
	}
	l := r.Notes()
	l[0].Who = 9
	_ = append(l[:1], api.Note{Who: 9})
	if !slices.Equal(r.Notes(), want) {
		t.Fatal(r.Notes())
	}
	steps := r.Steps()
	rest(t, r, 2)
	want = append(want, api.Note{Who: 2, Deed: api.Left, Seq: -1}, api.Note{Who: 2, Deed: api.Stopped, Seq: -1})
	if !slices.Equal(r.Notes(), want) || r.Steps() == steps {
		t.Fatal(r.Notes())
	}
}

// P21.1: the first MaxNotes are kept, and none of those that come later, while steps are counted on.
func TestManyNotes(t *testing.T) {
	r := ran(t, ring(64), consumer(0, block, 64), producer(0, block))
	keys := make([]int64, 64)
	var early []api.Note
	for i := 0; i < 1100; i++ {
		played(t, r, send(1, keys...))
		if n, ok := r.Settle(1000); !ok || n == 0 {
			t.Fatal(i, n, ok)
		}
		if i == 0 {
			early = r.Notes()
		}
	}
	l, steps := r.Notes(), r.Steps()
	if len(l) != api.MaxNotes || !slices.Equal(l[:len(early)], early) || steps < api.MaxNotes {
		t.Fatal(len(l), steps)
	}
	played(t, r, send(1, 7))
	rest(t, r, 1)
	played(t, r, on(runner.Drain, 0))
	rest(t, r, 0)
	played(t, r, on(runner.Remove, 0))
	if !slices.Equal(r.Notes(), l) || r.Steps() <= steps {
		t.Fatal(len(r.Notes()), r.Steps())
	}
}

// P21.2: who is woken in a round steps in it only if its turn is still to come.
func TestRound(t *testing.T) {
	r := ran(t, ring(2), consumer(0, block, 1), producer(0, block), consumer(0, block, 1))
	rest(t, r, 0)
	rest(t, r, 2)
	played(t, r, send(1, 7))
	for _, want := range []int{1, 1, 1, 2, 3} {
		if n := r.Round(); n != want {
			t.Fatal(n, want, r.Notes())
		}
	}
	// The first one looks for the second time, the last one for the third time.
	until(t, r, 2, api.Handled)
	if d := deeds(r.Notes()); !slices.Equal(d, []api.Deed{api.Shown, api.Returned, api.Handled}) {
		t.Fatal(d)
	}
}

// P21.2: rounds go on till all is at rest, or nobody steps in one, or there were most.
func TestSettle(t *testing.T) {
	lines := []runner.Op{ring(2), consumer(0, block, 1), producer(0, block), send(1, 7)}
	for most := -3; most < 12; most++ {
		r := ran(t, lines...)
		if n, ok := r.Settle(most); n != max(0, min(most, 7)) || ok != (most >= 7) || ok != r.Over() {
			t.Fatal(most, n, ok)
		}
		// And on, as if there had been no stop.
		if n, ok := r.Settle(100); n != min(7, 7-most) && most >= 0 && most < 7 || !ok {
			t.Fatal(most, n, ok)
		}
	}
	for _, most := range []int{math.MinInt, -1, 0} {
		r := ran(t, lines[:3]...)
		if n, ok := r.Settle(most); n != 0 || !ok || r.Steps() != 0 {
			t.Fatal(most, n, ok)
		}
	}
	// Who waits for what doesn't come sleeps: nobody steps then.
	r := ran(t, ring(2), poller(0, block), on(runner.Receive, 0))
	n, ok := r.Settle(math.MaxInt)
	if ok || n == 0 || n > 20 || r.Steps() != n || r.Exchange().State(0) != actor.Parked {
		t.Fatal(n, ok)
	}
	if n, ok := r.Settle(5); n != 0 || ok {
		t.Fatal(n, ok)
	}
	// Who spins steps in each.
	r = ran(t, ring(2), poller(0, spin), on(runner.Receive, 0))
	if n, ok := r.Settle(1000); n != 1000 || ok || r.Steps() != 1000 {
		t.Fatal(n, ok)
	}
}
