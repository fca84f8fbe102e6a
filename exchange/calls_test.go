package exchange_test

import (
	"errors"
	"noria/actor"
	"noria/api"
	"noria/barrier"
	"noria/exchange"
	"noria/room"
	"slices"
	"testing"
)

// cast is an exchange with one actor of each kind, and a worker more, all of ring 0, the chooser of ring 1, too.
type cast struct {
	*exchange.Exchange
	producer, consumer, worker, mate, poller, chooser int
}

// casting is such an exchange: nobody is behind anybody.
func casting(t *testing.T, k room.Kind) cast {
	t.Helper()
	x := made(t, 4, k, room.Multi)
	c := cast{Exchange: x, producer: must(t)(x.Producer(0, block)), consumer: must(t)(x.Consumer(0, block, 2))}
	l := some(t)(x.Pool(0, block, 2))
	c.worker, c.mate = l[0], l[1]
	c.poller, c.chooser = must(t)(x.Poller(0, block)), must(t)(x.Chooser(1, 0))
	return c
}

// others are all but one.
func (c cast) others(who int) []int {
	var l []int
	for y := range c.Len() {
		if y != who {
			l = append(l, y)
		}
	}
	return l
}

// takers are all calls, and who takes them.
func (c cast) takers() map[string]struct {
	who  int
	call func(who int) error
} {
	type taker = struct {
		who  int
		call func(who int) error
	}
	return map[string]taker{
		"send":    {c.producer, func(who int) error { return c.Send(who, api.Event{Key: 7}) }},
		"offer":   {c.producer, func(who int) error { return c.Offer(who, api.Event{Key: 7}) }},
		"poll":    {c.poller, func(who int) error { return c.Poll(who, 3) }},
		"receive": {c.poller, c.Receive},
		"select":  {c.chooser, func(who int) error { return c.Select(who, -1) }},
	}
}

// P20.2: calls are taken by those of one kind alone, who are woken; all others are ErrArg, Halted or not.
func TestCalls(t *testing.T) {
	for _, k := range kinds {
		for name := range casting(t, k).takers() {
			c := casting(t, k)
			y := c.takers()[name]
			for _, who := range c.others(y.who) {
				refused(t, c.Exchange, api.ErrArg, func() error { return y.call(who) })
			}
			for i := range api.MaxCalls {
				wakes := c.Room().Actors().Wakes(y.who)
				if e := y.call(y.who); e != nil || c.Pending(y.who) != i+1 || c.Room().Actors().Wakes(y.who) != wakes+1 {
					t.Fatal(name, e, c.Pending(y.who))
				}
			}
			refused(t, c.Exchange, api.ErrMany, func() error { return y.call(y.who) })
			for _, who := range c.others(y.who) {
				if c.Pending(who) != 0 {
					t.Fatal(name, who, c.Pending(who))
				}
			}
			// Alerted, all its calls end.
			done(t, c.Alert(y.who))
			rest(t, c.Exchange, y.who)
			if c.Pending(y.who) != 0 || c.State(y.who) != actor.Parked {
				t.Fatal(name, c.Pending(y.who), c.State(y.who))
			}
			for who := range c.Len() {
				done(t, c.Drain(who))
				rest(t, c.Exchange, who)
				if c.State(who) != actor.Halted {
					t.Fatal(name, who, c.State(who))
				}
			}
			refused(t, c.Exchange, api.ErrHalted, func() error { return y.call(y.who) })
			for _, who := range c.others(y.who) {
				refused(t, c.Exchange, api.ErrArg, func() error { return y.call(who) })
			}
		}
	}
}

// Errors of layers 15 and 18: how much may be sent, and asked for.
func TestNumbers(t *testing.T) {
	c := casting(t, room.Single)
	for _, n := range edges {
		if n >= 0 && n < 99 && (n < 1 || n > 4) {
			l := make([]api.Event, n)
			refused(t, c.Exchange, api.ErrArg, func() error { return c.Send(c.producer, l...) })
			refused(t, c.Exchange, api.ErrArg, func() error { return c.Offer(c.producer, l...) })
		}
		if n < 1 || n > api.MaxBatch {
			refused(t, c.Exchange, api.ErrArg, func() error { return c.Poll(c.poller, n) })
		}
	}
	for _, n := range edges {
		done(t, c.Select(c.chooser, n))
	}
}

// R3: events that are sent aren't kept.
func TestKept(t *testing.T) {
	for _, k := range kinds {
		c := casting(t, k)
		l := []api.Event{{Key: 1, Val: 2}, {Key: 3, Val: 4}}
		done(t, c.Send(c.producer, l...))
		l[0], l[1] = api.Event{}, api.Event{}
		until(t, c.Exchange, c.producer, api.Returned)
		if n := until(t, c.Exchange, c.consumer, api.Handled); n.X != (api.Event{Key: 1, Val: 2}) {
			t.Fatal(n)
		}
		if n := until(t, c.Exchange, c.consumer, api.Handled); n.X != (api.Event{Key: 3, Val: 4}) {
			t.Fatal(n)
		}
	}
}

// tells are the calls that change an alert, each at what it has then.
func tells(x *exchange.Exchange) [3]func(int) error {
	return [...]func(int) error{barrier.Quiet: x.Clear, barrier.Alerted: x.Alert, barrier.Drain: x.Drain}
}

// P20.2: Alert, Clear and Drain write the actor's own alert, and wake it: one that is Parked is Ready, another one has a token.
func TestTold(t *testing.T) {
	for _, k := range kinds {
		for who := range casting(t, k).Len() {
			for _, parked := range []bool{false, true} {
				c := casting(t, k)
				if parked {
					rest(t, c.Exchange, who)
				}
				for i, tell := range tells(c.Exchange) {
					sign := int64(i)
					cells := map[int]int64{}
					for id := range c.Room().Arena().Len() {
						cells[id] = number(c.Exchange, id)
					}
					was, wakes := c.Told(who), c.Room().Actors().Wakes(who)
					if e := tell(who); e != nil || c.Told(who) != sign || c.Room().Actors().Wakes(who) != wakes+1 || c.State(who) != actor.Ready {
						t.Fatal(k, who, sign, e, c.Told(who), c.State(who))
					}
					other := 0
					for id, v := range cells {
						if v != number(c.Exchange, id) {
							other++
						}
					}
					if int64(other) != one(was != sign) || c.Len() != 6 {
						t.Fatal(k, who, sign, other, "cells were changed")
					}
					for _, y := range c.others(who) {
						if c.Told(y) != barrier.Quiet || c.Room().Actors().Wakes(y) != 0 {
							t.Fatal(k, who, sign, y, c.Told(y))
						}
					}
				}
				if !c.Room().Actors().Token(who) {
					t.Fatal(k, who, "isn't woken")
				}
			}
		}
	}
}

// P20.2: who is alerted, or told to drain, stops, or ends its calls; who is cleared goes on.
func TestStop(t *testing.T) {
	for _, k := range kinds {
		c := casting(t, k)
		for who := range c.Len() {
			done(t, c.Alert(who))
			done(t, c.Clear(who))
			rest(t, c.Exchange, who)
			if c.State(who) != actor.Parked || c.Left(who) || c.Ends(who) {
				t.Fatal(k, who, c.State(who), c.Left(who), c.Ends(who))
			}
			done(t, c.Drain(who))
			rest(t, c.Exchange, who)
			if c.State(who) != actor.Halted || c.Pending(who) != 0 {
				t.Fatal(k, who, c.State(who))
			}
			// Of those workers and choosers alone hold nobody back any more.
			kind, _ := c.Kind(who)
			if c.Left(who) != (kind == exchange.Worker || kind == exchange.Chooser) || c.Ends(who) != (kind == exchange.Worker || kind == exchange.Consumer) {
				t.Fatal(k, who, c.Left(who), c.Ends(who))
			}
		}
	}
}

// Errors of Alert, Clear, Drain: ErrHalted comes first, then ErrThere.
func TestToldErrors(t *testing.T) {
	for _, k := range kinds {
		c := casting(t, k)
		for _, who := range []int{c.consumer, c.poller, c.chooser} {
			if _, e := c.Remove(who); e != nil {
				t.Fatal(e)
			}
			for _, tell := range tells(c.Exchange) {
				refused(t, c.Exchange, api.ErrThere, func() error { return tell(who) })
			}
		}
		for who := range c.Len() {
			if kind, _ := c.Kind(who); kind == exchange.Producer || kind == exchange.Worker {
				done(t, c.Drain(who))
			}
			rest(t, c.Exchange, who)
			for _, tell := range tells(c.Exchange) {
				refused(t, c.Exchange, api.ErrHalted, func() error { return tell(who) })
			}
		}
	}
}

// P20.2: who is removed is told so, by a note that has its number alone (and the first ring of a chooser); it leaves then, and stops.
func TestRemove(t *testing.T) {
	for _, k := range kinds {
		c := casting(t, k)
		for _, who := range []int{c.poller, c.chooser, c.consumer} {
			want := api.Note{Who: who}
			if who == c.chooser {
				want.Ring = 1
			}
			wakes := c.Room().Actors().Wakes(who)
			if n, e := c.Remove(who); e != nil || n != want || c.Told(who) != barrier.Alerted || c.Left(who) || c.Room().Actors().Wakes(who) != wakes+1 {
				t.Fatal(k, who, n, e)
			}
			refused(t, c.Exchange, api.ErrThere, func() error { _, e := c.Remove(who); return e })
			left := 0
			for range c.Rings(who) {
				if c.Left(who) {
					t.Fatal(k, who, "left ahead of that")
				}
				until(t, c.Exchange, who, api.Left)
				left++
			}
			if rest(t, c.Exchange, who); !c.Left(who) || c.State(who) != actor.Halted {
				t.Fatal(k, who, c.Left(who), c.State(who))
			}
			for _, ring := range c.Rings(who) {
				if slices.Contains(c.Room().Gate(ring).Cells(), c.Cell(who, ring)) {
					t.Fatal(k, who, ring, "is held back")
				}
			}
			refused(t, c.Exchange, api.ErrThere, func() error { _, e := c.Remove(who); return e })
			// It stays what it is.
			if kind, ok := c.Kind(who); !ok || kind == exchange.Producer || len(c.Rings(who)) == 0 || c.Len() != 6 {
				t.Fatal(k, who, kind, ok)
			}
		}
	}
}

// P20.2: one that is Halted leaves at once, and those who wait are woken.
func TestRemoveHalted(t *testing.T) {
	for _, k := range kinds {
		x := made(t, 2, k)
		p := must(t)(x.Producer(0, block))
		for i, who := range []int{must(t)(x.Consumer(0, block, 1)), must(t)(x.Poller(0, block))} {
			done(t, x.Drain(who))
			rest(t, x, who)
			// The other one holds back as well.
			if i == 0 {
				continue
			}
			done(t, x.Send(p, api.Event{}, api.Event{}))
			done(t, x.Send(p, api.Event{}))
			if rest(t, x, p); x.State(p) != actor.Parked || x.Pending(p) != 1 {
				t.Fatal(k, x.State(p))
			}
		}
		if n, e := x.Remove(1); e != nil || n != (api.Note{Who: 1, Deed: api.Left, Seq: -1}) || !x.Left(1) || x.State(p) != actor.Ready {
			t.Fatal(k, n, e, x.Left(1))
		}
		if rest(t, x, p); x.Pending(p) != 1 {
			t.Fatal(k, "another one holds back")
		}
		if n, e := x.Remove(2); e != nil || n != (api.Note{Who: 2, Deed: api.Left, Seq: -1}) || !x.Left(2) || x.State(p) != actor.Ready {
			t.Fatal(k, n, e, x.Left(2))
		}
		if rest(t, x, p); x.Pending(p) != 0 || x.Room().Gate(0).Len() != 0 {
			t.Fatal(k, x.Pending(p))
		}
		for who := 1; who < 3; who++ {
			refused(t, x, api.ErrThere, func() error { _, e := x.Remove(who); return e })
			refused(t, x, api.ErrHalted, func() error { return x.Alert(who) })
		}
	}
}

// Errors of Remove: producers and workers stay; one that somebody is directly behind stays as long as that wasn't removed.
func TestRemoveErrors(t *testing.T) {
	for _, k := range kinds {
		c := casting(t, k)
		x := c.Exchange
		fails := func(want api.Errno, who int) {
			t.Helper()
			refused(t, x, want, func() error { _, e := x.Remove(who); return e })
		}
		for _, who := range []int{c.producer, c.worker, c.mate} {
			fails(api.ErrArg, who)
		}
		mid := must(t)(x.Consumer(0, block, 1, c.consumer))
		end := must(t)(x.Poller(0, block, mid, c.poller))
		late := must(t)(x.Consumer(0, block, 1, c.worker))
		for _, who := range []int{c.consumer, mid, c.poller} {
			fails(api.ErrBusy, who)
		}
		if !x.Behind(end, c.consumer) || !x.Behind(end, c.poller) || !x.Behind(late, c.mate) {
			t.Fatal("who is behind whom")
		}
		// One that is Halted is behind others none the less; one that is told to leave isn't any more, though it hasn't left.
		done(t, x.Alert(mid))
		rest(t, x, mid)
		fails(api.ErrBusy, c.consumer)
		fails(api.ErrBusy, mid)
		if n, e := x.Remove(end); e != nil || n != (api.Note{Who: end}) || x.Left(end) {
			t.Fatal(n, e)
		}
		fails(api.ErrThere, end)
		for y := range x.Len() {
			if x.Behind(end, y) || x.Behind(y, end) {
				t.Fatal(end, y)
			}
		}
		fails(api.ErrBusy, c.consumer)
		if n, e := x.Remove(mid); e != nil || n != (api.Note{Who: mid, Deed: api.Left, Seq: -1}) {
			t.Fatal(n, e)
		}
		for _, who := range []int{c.consumer, c.poller, late, c.chooser} {
			if _, e := x.Remove(who); e != nil {
				t.Fatal(who, e)
			}
			fails(api.ErrThere, who)
		}
		for who := range x.Len() {
			for y := range x.Len() {
				if x.Behind(who, y) {
					t.Fatal(who, y)
				}
			}
		}
		// Those who were removed are there none the less, and still stop.
		for _, who := range []int{end, c.consumer, c.poller, late, c.chooser} {
			if rest(t, x, who); x.State(who) != actor.Halted || !x.Left(who) {
				t.Fatal(who, x.State(who))
			}
		}
	}
}

// Errors of Remove: behind a pool one is behind all its workers, and a pool holds those ahead of it.
func TestRemovePool(t *testing.T) {
	x := made(t, 2, room.Multi)
	c := must(t)(x.Consumer(0, block, 1))
	l := some(t)(x.Pool(0, block, 3, c))
	o := must(t)(x.Poller(0, block, l[1]))
	for i := range l {
		for j := range l {
			if x.Behind(l[i], l[j]) {
				t.Fatal(i, j)
			}
		}
		if !x.Behind(l[i], c) || !x.Behind(o, l[i]) || x.Behind(c, l[i]) {
			t.Fatal(i)
		}
		refused(t, x, api.ErrArg, func() error { _, e := x.Remove(l[i]); return e })
	}
	if _, e := x.Remove(o); e != nil {
		t.Fatal(e)
	}
	// Though all of its workers are Halted, the pool is behind.
	for _, who := range l {
		done(t, x.Alert(who))
		rest(t, x, who)
	}
	refused(t, x, api.ErrBusy, func() error { _, e := x.Remove(c); return e })
}

// Errors of Remove: of a chooser that has stopped layer 19's.
func TestRemoveChooser(t *testing.T) {
	c := casting(t, room.Multi)
	done(t, c.Drain(c.chooser))
	rest(t, c.Exchange, c.chooser)
	refused(t, c.Exchange, api.ErrHalted, func() error { _, e := c.Remove(c.chooser); return e })
	refused(t, c.Exchange, api.ErrHalted, func() error { _, e := c.Remove(c.chooser); return e })
}

// P20.2: time goes by, and those are woken whose deadline is there.
func TestTick(t *testing.T) {
	x := made(t, 2, room.Single)
	for i := range 3 {
		w := timed
		w.Time += int64(i)
		rest(t, x, must(t)(x.Consumer(0, w, 1)))
	}
	for _, d := range []int64{-1 << 63, -1, 0} {
		refused(t, x, api.ErrArg, func() error { l, e := x.Tick(d); return nobody(t, l, e) })
	}
	for _, d := range []int64{api.MaxTime + 1, 1<<63 - 1} {
		refused(t, x, api.ErrRange, func() error { l, e := x.Tick(d); return nobody(t, l, e) })
	}
	for i, want := range [][]int{nil, {0}, {1, 2}, nil} {
		d := []int64{3, 1, 2, api.MaxTime - 6}[i]
		if l, e := x.Tick(d); e != nil || !slices.Equal(l, want) {
			t.Fatal(i, l, e)
		}
	}
	refused(t, x, api.ErrRange, func() error { l, e := x.Tick(1); return nobody(t, l, e) })
}

// nobody is an error beside which nobody is told.
func nobody(t *testing.T, l []int, e error) error {
	if len(l) > 0 {
		t.Fatal(l, e)
	}
	return e
}

// Errors of Step: who is Parked, or Halted, doesn't step.
func TestStepErrors(t *testing.T) {
	for _, k := range kinds {
		c := casting(t, k)
		for who := range c.Len() {
			rest(t, c.Exchange, who)
			refused(t, c.Exchange, api.ErrBusy, func() error { return stepless(t, c, who) })
			done(t, c.Drain(who))
			rest(t, c.Exchange, who)
			refused(t, c.Exchange, api.ErrHalted, func() error { return stepless(t, c, who) })
		}
	}
}

// stepless is the error of a step, beside which there is no note.
func stepless(t *testing.T, c cast, who int) error {
	n, e := c.Step(who)
	if n != (api.Note{}) || e == nil || errors.Is(e, api.ErrNone) {
		t.Fatal(who, n, e)
	}
	return e
}
