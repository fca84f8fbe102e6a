package runner_test

import (
	"math/rand/v2"
	"noria/actor"
	"noria/api"
	"noria/barrier"
	"noria/exchange"
	"noria/fault"
	"noria/pool"
	"noria/room"
	"noria/runner"
	"slices"
	"testing"
)

// twin is an exchange with which the same is done by its own calls, and what was seen of it.
type twin struct {
	*exchange.Exchange
	notes []api.Note
	steps int
	// How many loads of cells were done only to ask.
	asked int
}

// made is what a line that makes something, or asks somebody, is by the exchange's own call.
func (w *twin) made(o runner.Op) (e error) {
	switch o.Do {
	case runner.MakeRing:
		_, e = w.Ring(o.N, room.Kind(o.Ring))
	case runner.MakeProducer:
		_, e = w.Producer(o.Ring, o.Way)
	case runner.MakeConsumer:
		_, e = w.Consumer(o.Ring, o.Way, o.N, o.After...)
	case runner.MakePool:
		_, e = w.Pool(o.Ring, o.Way, o.N, o.After...)
	case runner.MakePoller:
		_, e = w.Poller(o.Ring, o.Way, o.After...)
	case runner.MakeChooser:
		_, e = w.Chooser(o.After...)
	case runner.Send:
		e = w.Send(o.Who, o.L...)
	case runner.Offer:
		e = w.Offer(o.Who, o.L...)
	case runner.Poll:
		e = w.Poll(o.Who, o.N)
	case runner.Receive:
		e = w.Receive(o.Who)
	case runner.Select:
		e = w.Select(o.Who, o.N)
	default:
		return api.ErrArg
	}
	return e
}

// do is what a line is by the exchange's own call.
func (w *twin) do(o runner.Op) error {
	switch o.Do {
	case runner.Alert:
		return w.Alert(o.Who)
	case runner.Clear:
		return w.Clear(o.Who)
	case runner.Drain:
		return w.Drain(o.Who)
	case runner.Remove:
		n, e := w.Remove(o.Who)
		if e == nil {
			w.see(n)
		}
		return e
	case runner.Tick:
		_, e := w.Tick(o.At)
		return e
	case runner.Pick:
		l := w.Room().Actors().Runnable()
		if len(l) == 0 {
			return api.ErrIdle
		}
		w.step(l[(o.N%len(l)+len(l))%len(l)])
		return nil
	}
	return w.made(o)
}

// see keeps what was seen.
func (w *twin) see(n api.Note) {
	if n.Deed != api.Silent {
		w.notes = append(w.notes, n)
	}
}

// step lets one step, if it is Ready: how many steps that were.
func (w *twin) step(who int) int {
	if w.State(who) != actor.Ready {
		return 0
	}
	n, e := w.Step(who)
	if e != nil {
		panic(e)
	}
	w.steps++
	w.see(n)
	return 1
}

// round is a round: how many stepped.
func (w *twin) round() (n int) {
	for who := range w.Len() {
		n += w.step(who)
	}
	return n
}

// over says whether all is at rest, by layer 14's own Published.
func (w *twin) over() bool {
	a := w.Room().Arena()
	defer func(was int) { w.asked += a.Steps() - was }(a.Steps())
	for who := range w.Len() {
		k, _ := w.Kind(who)
		switch {
		case w.State(who) == actor.Halted:
		case k != exchange.Consumer && k != exchange.Worker:
			if w.Pending(who) > 0 {
				return false
			}
		default:
			ring := w.Rings(who)[0]
			n, _ := a.Load(w.Cell(who, ring))
			if n == pool.Free {
				continue
			}
			if hi, e := w.Room().Published(ring, n+1); e != nil || hi > n {
				return false
			}
		}
	}
	return true
}

// free says whether nobody holds up.
func (w *twin) free() bool {
	for who := range w.Len() {
		k, _ := w.Kind(who)
		halted, warned := w.State(who) == actor.Halted, w.Told(who) != barrier.Quiet || w.Ends(who)
		ok := false
		switch k {
		case exchange.Poller, exchange.Chooser:
			ok = w.Left(who)
		case exchange.Consumer:
			ok = w.Left(who) || !halted && !warned
		case exchange.Worker:
			ok = !halted && !warned
		case exchange.Producer:
			ok = halted || !warned
		}
		if !ok {
			return false
		}
	}
	return true
}

// bound is how many rounds are enough.
func (w *twin) bound() int {
	sent, calls, slots := 0, 0, 1
	for ring := range w.Room().Rings() {
		n, _ := w.Room().Arena().Clone().Load(w.Room().Cursor(ring))
		sent += int(n) + 1
		slots = max(slots, int(w.Room().Slots(ring).Size().Slots()))
	}
	for who := range w.Len() {
		calls += w.Pending(who)
	}
	return bound(w.Len(), sent, calls, slots)
}

// same says what isn't the same of a runner and its twin.
func (w *twin) same(r *runner.Runner) string {
	steps := w.Room().Arena().Steps()
	switch {
	case r.Exchange().Room().Arena().Steps() != steps-w.asked:
		return "steps of cells"
	case r.Steps() != w.steps || !slices.Equal(r.Notes(), w.notes):
		return "what was seen"
	case !slices.Equal(sights(r.Exchange()), sights(w.Exchange)):
		return "the exchange"
	case r.Over() != w.over():
		return "rest"
	case r.Free() != w.free():
		return "who holds up"
	case r.Bound() != w.bound():
		return "the bound"
	}
	return ""
}

// anyLine is some line, that may be refused.
func anyLine(r *rand.Rand, x *exchange.Exchange) runner.Op {
	n, rings := x.Len(), x.Room().Rings()
	who := func() int { return r.IntN(n+1) - r.IntN(20)/19 }
	on := runner.Op{Who: who(), Ring: r.IntN(rings + 1), N: 1 + r.IntN(4), At: r.Int64N(4), Way: all[r.IntN(len(all))]}
	for range r.IntN(3) {
		on.After = append(on.After, who())
	}
	for i := range r.IntN(4) {
		on.L = append(on.L, api.Event{Key: r.Int64N(99), Val: int64(i)})
	}
	on.Do = runner.Deed(r.IntN(19) - 1)
	switch {
	case on.Do == runner.MakeRing:
		on.Ring = r.IntN(3)
	case on.Do == runner.MakeChooser:
		on.After = r.Perm(rings + 1)[:1+r.IntN(rings+1)]
	case on.Do < runner.Send && r.IntN(3) > 0:
		on.Do = runner.Pick
	case (on.Do == runner.Alert || on.Do == runner.Drain || on.Do == runner.Remove) && r.IntN(4) > 0:
		on.Do = runner.Pick
	}
	if on.Do == runner.Pick {
		on.N = r.IntN(2000) - 1000
	}
	return on
}

// P21.1 to P21.4: whatever lines are done, picks, rounds and settles: all is as by the exchange's own calls.
func TestTwin(t *testing.T) {
	ends := map[runner.Deed]map[api.Errno]int{}
	overs, frees := [2]int{}, [2]int{}
	for seed := range uint64(120) {
		g := rand.New(rand.NewPCG(seed, 21))
		r, w := runner.New(), &twin{Exchange: exchange.New()}
		for i := range 300 {
			switch what := g.IntN(12); {
			case what < 10:
				o := anyLine(g, w.Exchange)
				e, f := r.Do(o), w.do(o)
				if fault.Code(e) != fault.Code(f) {
					t.Fatal(seed, i, o, e, f)
				}
				if ends[o.Do] == nil {
					ends[o.Do] = map[api.Errno]int{}
				}
				ends[o.Do][fault.Code(f)]++
			case what == 10:
				if n, m := r.Round(), w.round(); n != m {
					t.Fatal(seed, i, n, m)
				}
			default:
				most := g.IntN(9) - 1
				k, ok := r.Settle(most)
				n := 0
				for n < most && !w.over() && w.round() > 0 {
					n++
				}
				if k != n || ok != w.over() {
					t.Fatal(seed, i, k, n, ok)
				}
			}
			if why := w.same(r); why != "" {
				t.Fatal(seed, i, why)
			}
			overs[one(w.over())]++
			frees[one(w.free())]++
		}
	}
	for d := runner.MakeRing; d <= runner.Pick; d++ {
		if ends[d][0] < 20 || len(ends[d]) < 2 && d != runner.Pick {
			t.Fatal(d, ends[d])
		}
	}
	if min(overs[0], overs[1], frees[0], frees[1]) < 1000 {
		t.Fatal(overs, frees)
	}
}

// P21.5: the same lines lead to the same, done one by one, or at once.
func TestSame(t *testing.T) {
	for seed := range uint64(40) {
		g := rand.New(rand.NewPCG(seed, 215))
		r, bad := runner.New(), 0
		var l []runner.Op
		for range 400 {
			o := anyLine(g, r.Exchange())
			if l = append(l, o); r.Do(o) != nil {
				bad++
			}
		}
		s := runner.New()
		if n := s.Play(l...); n != bad || !slices.Equal(told(r), told(s)) {
			t.Fatal(seed, n, bad)
		}
		// And those that were refused left nothing.
		u, v := runner.New(), runner.New()
		for _, o := range l {
			if u.Do(o) == nil && v.Do(o) != nil {
				t.Fatal(seed, o)
			}
		}
		if !slices.Equal(told(u), told(v)) || !slices.Equal(told(u), told(r)) {
			t.Fatal(seed)
		}
	}
}
