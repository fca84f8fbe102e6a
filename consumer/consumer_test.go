package consumer_test

import (
	"errors"
	"math"
	"noria/actor"
	"noria/api"
	"noria/barrier"
	"noria/consumer"
	"noria/fault"
	"noria/room"
	"noria/wait"
	"slices"
	"testing"
)

// edges are numbers near the ends of their type, and near the bounds that the document names.
var edges = []int{math.MinInt, -2, -1, 0, 1, 2, 7, 8, 9, 63, 64, 65, math.MaxInt}

// kinds are both kinds of rings.
var kinds = []room.Kind{room.Single, room.Multi}

// spin is a way of waiting.
var spin = wait.Way{Kind: wait.Spin}

// rings is a room with some rings of so many slots.
func rings(t *testing.T, n int, l ...room.Kind) *room.Room {
	t.Helper()
	r := room.New()
	for _, k := range l {
		if _, e := r.Ring(n, k); e != nil {
			t.Fatal(n, k, e)
		}
	}
	return r
}

// handler is a consumer.
func handler(t *testing.T, r *room.Room, ring int, w wait.Way, batch int, after ...int) *consumer.Consumer {
	t.Helper()
	c, e := consumer.New(r, ring, w, batch, after...)
	if c == nil || e != nil {
		t.Fatal(ring, w, batch, after, c, e)
	}
	return c
}

// alloc lays so many cells.
func alloc(t *testing.T, r *room.Room, n int) []int {
	t.Helper()
	l := make([]int, n)
	for i := range l {
		var e error
		if l[i], e = r.Arena().Alloc(-1); e != nil {
			t.Fatal(e)
		}
	}
	return l
}

// event is what is sent to an index.
func event(seq int64) api.Event { return api.Event{Key: 100 + seq, Val: -7 * seq} }

// claim claims so many indexes of a ring, and puts their events: the last one.
func claim(r *room.Room, ring, n int) (int64, error) {
	c, e := r.Claim(ring, n)
	for e == nil && !c.Done() {
		c, e = c.Step()
	}
	if e != nil {
		return 0, e
	}
	if c.Full() {
		return 0, api.ErrFull
	}
	for seq := c.Last() - int64(n) + 1; seq <= c.Last(); seq++ {
		if e := r.Slots(ring).Put(seq, event(seq)); e != nil {
			return 0, e
		}
	}
	return c.Last(), nil
}

// publish lets so many events more be published.
func publish(r *room.Room, ring, n int) error {
	last, e := claim(r, ring, n)
	for seq := last - int64(n) + 1; e == nil && seq <= last; {
		seq, e = r.Show(ring, seq, last)
	}
	return e
}

// number is what a cell has, without a step.
func number(r *room.Room, id int) int64 {
	v, _ := r.Arena().Clone().Load(id)
	return v
}

// one is 1 for true.
func one(ok bool) int64 {
	if ok {
		return 1
	}
	return 0
}

// told is all that a room, and a consumer in it, tell without a step.
func told(r *room.Room, c *consumer.Consumer) []int64 {
	l := []int64{int64(c.Who()), int64(c.Ring()), int64(c.Cell()), int64(c.Alert()), c.Start(), c.Next(), one(c.Left()), one(c.Ends())}
	next, _ := r.Clock().Next()
	l = append(l, r.Clock().Now(), next, int64(r.Clock().Waiting()), int64(r.Rings()), int64(r.Arena().Len()), int64(r.Arena().Steps()))
	a := r.Arena().Clone()
	for id := range min(a.Len(), 100) {
		v, _ := a.Load(id)
		l = append(l, v)
	}
	for who := range r.Actors().Len() {
		l = append(l, int64(r.Actors().State(who)), one(r.Actors().Token(who)), int64(r.Actors().Wakes(who)))
	}
	for id := range r.Rings() {
		for _, x := range append(r.Waiting(id), r.Gate(id).Cells()...) {
			l = append(l, int64(x))
		}
		for seq := range r.Slots(id).Size().Slots() {
			x, _ := r.Slots(id).Get(seq)
			l = append(l, x.Key, x.Val)
		}
	}
	return l
}

// refused wants a call to be refused with this error, and nothing to have changed.
func refused(t *testing.T, r *room.Room, c *consumer.Consumer, want api.Errno, call func() error) {
	t.Helper()
	was := told(r, c)
	if e := call(); !errors.Is(e, want) || !fault.Is(e, want) {
		t.Fatal(want, e)
	}
	if now := told(r, c); !slices.Equal(was, now) {
		t.Fatal(want, was, now)
	}
}

// unmade wants New to be refused with this error, and nothing to have changed.
func unmade(t *testing.T, r *room.Room, want api.Errno, ring int, w wait.Way, batch int, after ...int) {
	t.Helper()
	refused(t, r, nil, want, func() error {
		c, e := consumer.New(r, ring, w, batch, after...)
		if c != nil {
			t.Fatal(ring, w, batch, after, "a consumer beside an error")
		}
		return e
	})
}

// P16.1: a consumer is a new actor with two new cells, that begins behind what the cursor's cell has, and holds the ring back.
func TestNew(t *testing.T) {
	for _, k := range kinds {
		r := rings(t, 64, k, room.Multi, k)
		var held [3][]int
		for i, ring := range []int{2, 0, 2, 2, 1, 0} {
			if e := publish(r, ring, 1+i); e != nil {
				t.Fatal(e)
			}
			// What is claimed counts, where many claim, what is published, where one does.
			last, e := claim(r, ring, 1)
			if e != nil {
				t.Fatal(e)
			}
			if k == room.Single && ring != 1 {
				if last--; last != number(r, r.Cursor(ring)) {
					t.Fatal(last, "isn't what is published")
				}
			}
			was, waiting := r.Arena().Len(), len(r.Actors().Runnable())
			c := handler(t, r, ring, wait.Way{Kind: wait.Kind(i % 4), Tries: 3, Time: 5}, 1+i*12, held[ring]...)
			if c.Who() != i || c.Ring() != ring || r.Actors().Len() != i+1 || len(r.Actors().Runnable()) != waiting+1 || r.Actors().Token(i) {
				t.Fatal(i, c.Who(), c.Ring(), r.Actors().Len())
			}
			if r.Arena().Len() != was+2 || min(c.Cell(), c.Alert()) != was || max(c.Cell(), c.Alert()) != was+1 {
				t.Fatal(i, was, r.Arena().Len(), c.Cell(), c.Alert())
			}
			if number(r, c.Cell()) != last || number(r, c.Alert()) != barrier.Quiet || c.Start() != last+1 || c.Next() != last+1 {
				t.Fatal(i, last, number(r, c.Cell()), c.Start(), c.Next())
			}
			held[ring] = append(held[ring], c.Cell())
			if !slices.Equal(r.Gate(ring).Cells(), held[ring]) || len(r.Waiting(ring)) != 0 || c.Left() || c.Ends() || r.Clock().Waiting() != 0 {
				t.Fatal(i, r.Gate(ring).Cells(), r.Waiting(ring), c.Left(), c.Ends())
			}
		}
	}
}

// Errors of New: the first one that applies is told, whatever else is wrong.
func TestNewOrder(t *testing.T) {
	wants := []api.Errno{api.ErrNone, api.ErrArg, api.ErrArg, api.ErrNone, api.ErrMany, api.ErrThere}
	for _, crowd := range []func(*testing.T, *room.Room){crowdGroup, crowdActors} {
		for _, k := range kinds {
			for wrong := 1; wrong < 1<<len(wants); wrong++ {
				is := func(i int) bool { return wrong>>i&1 == 1 }
				r := rings(t, 2, k)
				after := alloc(t, r, 3)
				ring, w, batch := 0, spin, 1
				want := api.Errno(0)
				for i := len(wants) - 1; i >= 0; i-- {
					if is(i) {
						want = wants[i]
					}
				}
				if is(0) {
					ring = 1
				}
				if is(1) {
					w.Kind = 4
				}
				if is(2) {
					batch = 65
				}
				if is(4) {
					crowd(t, r)
				}
				if is(5) {
					after = append(after, after[1])
				}
				if is(3) {
					after = append(after, r.Arena().Len())
				}
				unmade(t, r, want, ring, w, batch, after...)
			}
		}
	}
	if c, e := consumer.New(nil, 9, wait.Way{Kind: 9}, 0, -1); c != nil || !errors.Is(e, api.ErrNil) {
		t.Fatal(c, e)
	}
}

// crowdGroup lets a ring be held back by as many as may be.
func crowdGroup(t *testing.T, r *room.Room) {
	t.Helper()
	for _, id := range alloc(t, r, api.MaxGroup) {
		if e := r.Gate(0).Add(id); e != nil {
			t.Fatal(e)
		}
	}
}

// crowdActors lets there be as many actors as may be.
func crowdActors(t *testing.T, r *room.Room) {
	t.Helper()
	for range api.MaxActors {
		if _, _, e := r.Join(); e != nil {
			t.Fatal(e)
		}
	}
}

// Errors of New: the edges of each number.
func TestNewEdges(t *testing.T) {
	unmade(t, room.New(), api.ErrNone, 0, spin, 1)
	for _, k := range kinds {
		r := rings(t, 2, room.Multi, k)
		for _, n := range edges {
			if n < 0 || n > 1 {
				unmade(t, r, api.ErrNone, n, spin, 1)
			}
			if n < 1 || n > api.MaxBatch {
				unmade(t, r, api.ErrArg, 1, spin, n)
			}
			if n < 0 || n >= r.Arena().Len() {
				unmade(t, r, api.ErrNone, 1, spin, 1, n)
				unmade(t, r, api.ErrNone, 1, spin, 1, 0, 1, n, 1)
			}
		}
		unmade(t, r, api.ErrNone, 1, spin, 1, r.Arena().Len())
		unmade(t, r, api.ErrNone, 1, spin, 1, 0, r.Arena().Len(), 0)
		for _, n := range []wait.Kind{math.MinInt, -1, 4, math.MaxInt} {
			unmade(t, r, api.ErrArg, 1, wait.Way{Kind: n}, 1)
		}
		for _, n := range []int{math.MinInt, -1, 1001, math.MaxInt} {
			unmade(t, r, api.ErrRange, 1, wait.Way{Kind: wait.Yield, Tries: n}, 0)
		}
		for _, n := range []int64{math.MinInt64, -1, 0, 1<<30 + 1, math.MaxInt64} {
			unmade(t, r, api.ErrRange, 1, wait.Way{Kind: wait.Timed, Time: n}, 0)
		}
		handler(t, r, 1, spin, 1, 0, r.Arena().Len()-1)
		handler(t, r, 1, wait.Way{Kind: wait.Timed, Time: 1 << 30}, api.MaxBatch)
	}
}

// Errors of New: a cell that is named twice, or too many of them.
func TestNewAhead(t *testing.T) {
	r := rings(t, 2, room.Single)
	l := alloc(t, r, 40)
	most := l[:api.MaxGroup]
	unmade(t, r, api.ErrThere, 0, spin, 1, l[0], l[0])
	unmade(t, r, api.ErrThere, 0, spin, 1, l[3], l[1], l[2], l[3])
	unmade(t, r, api.ErrMany, 0, spin, 1, l[:api.MaxGroup+1]...)
	unmade(t, r, api.ErrMany, 0, spin, 1, l...)
	unmade(t, r, api.ErrThere, 0, spin, 1, append(slices.Clone(most), l[31])...)
	unmade(t, r, api.ErrThere, 0, spin, 1, append(slices.Clone(most), l[0], l[32])...)
	unmade(t, r, api.ErrMany, 0, spin, 1, append(slices.Clone(most), l[32], l[0])...)
	if c := handler(t, r, 0, spin, 1, most...); r.Gate(0).Len() != 1 || c.Who() != 0 {
		t.Fatal(r.Gate(0).Cells())
	}
}

// Errors of New: as many may hold a ring back, and as many actors may be, as the limits say, and no more.
func TestNewMany(t *testing.T) {
	for _, k := range kinds {
		r := rings(t, 2, k, k, k)
		for i := range api.MaxActors {
			ring := i / api.MaxGroup
			if c := handler(t, r, ring, spin, 1); c.Who() != i {
				t.Fatal(i, c.Who())
			}
			if i == api.MaxGroup-1 {
				unmade(t, r, api.ErrMany, 0, spin, 1)
				unmade(t, r, api.ErrArg, 0, spin, 0)
			}
		}
		unmade(t, r, api.ErrMany, 2, spin, 1)
		unmade(t, r, api.ErrMany, 2, spin, 1, 1, 1)
		unmade(t, r, api.ErrNone, 2, spin, 1, -1)
	}
}

// Errors of New: where there are less than two cells left, nothing is laid.
func TestNewCells(t *testing.T) {
	for left := range 4 {
		r := rings(t, 2, room.Multi)
		alloc(t, r, api.MaxCells-left-r.Arena().Len())
		c, e := consumer.New(r, 0, spin, 1)
		if left > 1 {
			if e != nil || c.Cell()+c.Alert() != 2*(api.MaxCells-left)+1 || r.Actors().Len() != 1 || r.Gate(0).Len() != 1 {
				t.Fatal(left, c.Cell(), c.Alert(), e)
			}
			continue
		}
		if c != nil || !errors.Is(e, api.ErrMany) || r.Actors().Len() != 0 || r.Arena().Len() != api.MaxCells-left || r.Gate(0).Len() != 0 {
			t.Fatal(left, e, r.Actors().Len(), r.Arena().Len(), r.Gate(0).Cells())
		}
	}
}

// P16.1, errors: nil has nothing, and every call on it is ErrNil.
func TestNil(t *testing.T) {
	var c *consumer.Consumer
	if c.Who() != -1 || c.Ring() != -1 || c.Cell() != -1 || c.Alert() != -1 || c.Start() != 0 || c.Next() != 0 || c.Left() || c.Ends() {
		t.Fatal(c.Who(), c.Ring(), c.Cell(), c.Alert(), c.Start(), c.Next(), c.Left(), c.Ends())
	}
	if n, e := c.Step(); n != (api.Note{}) || !errors.Is(e, api.ErrNil) {
		t.Fatal(n, e)
	}
	if n, e := c.Leave(); n != (api.Note{}) || !errors.Is(e, api.ErrNil) {
		t.Fatal(n, e)
	}
}

// R1: one that New didn't make doesn't panic either.
func TestUnmade(t *testing.T) {
	c := &consumer.Consumer{}
	for range 3 {
		c.Step()
		c.Leave()
	}
	if c.Alert() != -1 {
		t.Fatal(c.Alert(), c.Who(), c.Ring(), c.Cell(), c.Start(), c.Next(), c.Ends(), c.Left())
	}
}

// until lets a consumer step till a deed is seen.
func until(t *testing.T, c *consumer.Consumer, d api.Deed) {
	t.Helper()
	for range 99 {
		n, e := c.Step()
		if e != nil {
			t.Fatal(e)
		}
		if n.Deed == d {
			return
		}
	}
	t.Fatal(d, "isn't seen")
}

// step wants a step to be refused with this error.
func step(t *testing.T, r *room.Room, c *consumer.Consumer, want api.Errno) {
	t.Helper()
	refused(t, r, c, want, func() error {
		n, e := c.Step()
		if n != (api.Note{}) {
			t.Fatal(n, "beside an error")
		}
		return e
	})
}

// gone wants Leave to be refused: it has left.
func gone(t *testing.T, r *room.Room, c *consumer.Consumer) {
	t.Helper()
	refused(t, r, c, api.ErrNone, func() error {
		n, e := c.Leave()
		if n != (api.Note{}) {
			t.Fatal(n, "beside an error")
		}
		return e
	})
}

// Errors of Step: one that is parked, or halted, does none.
func TestStepErrors(t *testing.T) {
	for _, k := range kinds {
		for far := range 6 {
			r := rings(t, 2, k)
			c := handler(t, r, 0, spin, 1)
			if e := publish(r, 0, 1); e != nil {
				t.Fatal(e)
			}
			for range far {
				c.Step()
			}
			r.Park(0, 5)
			step(t, r, c, api.ErrBusy)
			step(t, r, c, api.ErrBusy)
			r.Halt(0)
			step(t, r, c, api.ErrHalted)
			step(t, r, c, api.ErrHalted)
		}
	}
}

// P16.1: who is told to leave is alerted, and woken, whatever it does; it leaves by its steps, and may be told so once more till it has.
func TestLeave(t *testing.T) {
	for _, k := range kinds {
		for ring := range 2 {
			r := rings(t, 2, k, k)
			r.Join()
			c := handler(t, r, ring, wait.Way{Kind: wait.Timed, Time: 9}, 1)
			for range 6 {
				c.Step()
			}
			if r.Actors().State(1) != actor.Parked || r.Clock().Waiting() != 1 {
				t.Fatal(k, told(r, c))
			}
			for i := range 2 {
				n, e := c.Leave()
				if e != nil || n != (api.Note{Who: 1}) || number(r, c.Alert()) != barrier.Alerted || c.Left() || c.Ends() {
					t.Fatal(k, i, n, e, c.Left(), c.Ends())
				}
				if r.Actors().State(1) != actor.Ready || r.Actors().Wakes(1) != i+1 || r.Clock().Waiting() != 0 || r.Gate(ring).Len() != 1 {
					t.Fatal(k, i, told(r, c))
				}
			}
			var deeds []api.Deed
			for range 9 {
				if r.Actors().State(1) != actor.Ready {
					break
				}
				n, e := c.Step()
				deeds = append(deeds, n.Deed)
				if e != nil || c.Left() != (r.Gate(ring).Len() == 0) || c.Left() != slices.Contains(deeds, api.Left) {
					t.Fatal(k, deeds, e, c.Left())
				}
				if c.Left() {
					gone(t, r, c)
				}
			}
			if !slices.Equal(deeds, []api.Deed{api.Silent, api.Left, api.Silent, api.Stopped}) {
				t.Fatal(k, deeds)
			}
			gone(t, r, c)
			step(t, r, c, api.ErrHalted)
		}
	}
}

// P16.1: one that is Halted leaves at once: all who wait for news are told.
func TestLeaveHalted(t *testing.T) {
	for _, k := range kinds {
		for ring := range 2 {
			for _, sign := range []int64{barrier.Alerted, barrier.Drain} {
				r := rings(t, 2, k, k)
				other, _, _ := r.Join()
				c := handler(t, r, ring, spin, 1)
				if e := publish(r, ring, 1); e != nil {
					t.Fatal(e)
				}
				until(t, c, api.Moved)
				r.Arena().Store(c.Alert(), sign)
				until(t, c, api.Stopped)
				r.Park(other, 0)
				r.Enlist(ring, other)
				if c.Left() || !c.Ends() || r.Gate(ring).Len() != 1 {
					t.Fatal(k, sign, c.Left(), c.Ends(), r.Gate(ring).Cells())
				}
				n, e := c.Leave()
				if e != nil || n != (api.Note{Who: 1, Ring: ring, Deed: api.Left}) || !c.Left() || !c.Ends() || number(r, c.Alert()) != sign {
					t.Fatal(k, sign, n, e, c.Left(), c.Ends())
				}
				if r.Gate(ring).Len() != 0 || r.Actors().State(other) != actor.Ready || len(r.Waiting(ring)) != 0 || r.Actors().Wakes(1) != 0 {
					t.Fatal(k, sign, told(r, c))
				}
				gone(t, r, c)
				step(t, r, c, api.ErrHalted)
			}
		}
	}
}

// P16.1: one that somebody else halted leaves at once, too, with what its cell has.
func TestLeaveStopped(t *testing.T) {
	for far := range 8 {
		r := rings(t, 4, room.Single)
		c := handler(t, r, 0, spin, 2)
		if e := publish(r, 0, 3); e != nil {
			t.Fatal(e)
		}
		for range far {
			c.Step()
		}
		r.Halt(0)
		want := number(r, c.Cell())
		if n, e := c.Leave(); e != nil || n != (api.Note{Deed: api.Left, Seq: want}) || want != c.Next()-1 || !c.Left() || r.Gate(0).Len() != 0 {
			t.Fatal(far, n, e, want)
		}
		if !c.Ends() {
			t.Fatal(far, "only to stop would be next")
		}
		gone(t, r, c)
	}
}

// P16.1: it holds the ring back though its number was in the group ahead of it, and leaves though somebody took that out.
func TestGroup(t *testing.T) {
	r := rings(t, 2, room.Single)
	for i := range 2 {
		if e := r.Gate(0).Add(r.Arena().Len() + i); e != nil {
			t.Fatal(e)
		}
	}
	c := handler(t, r, 0, spin, 1)
	if !slices.Contains(r.Gate(0).Cells(), c.Cell()) || r.Gate(0).Len() != 2 {
		t.Fatal(r.Gate(0).Cells(), c.Cell())
	}
	d := handler(t, r, 0, spin, 1)
	for _, x := range []*consumer.Consumer{c, d} {
		r.Gate(0).Drop(x.Cell())
		x.Leave()
		until(t, x, api.Left)
		until(t, x, api.Stopped)
		if !x.Left() || slices.Contains(r.Gate(0).Cells(), x.Cell()) {
			t.Fatal(x.Left(), r.Gate(0).Cells())
		}
	}
}

// R3: the cells that are named are neither changed nor kept, nor is the room behind their end.
func TestHandedIn(t *testing.T) {
	r := rings(t, 4, room.Single)
	a := handler(t, r, 0, spin, 1)
	b := handler(t, r, 0, spin, 1)
	l := []int{a.Cell(), b.Cell(), 77, 78}
	c := handler(t, r, 0, spin, 1, l[:2]...)
	if !slices.Equal(l, []int{a.Cell(), b.Cell(), 77, 78}) {
		t.Fatal(l)
	}
	for i := range l {
		l[i] = r.Cursor(0)
	}
	if e := publish(r, 0, 1); e != nil {
		t.Fatal(e)
	}
	for range 9 {
		if n, e := c.Step(); e != nil || n.Deed != api.Silent {
			t.Fatal(n, e, "it is behind both")
		}
	}
}

// R4: no cells, and a nil list, are one.
func TestNobodyAhead(t *testing.T) {
	for _, l := range [][]int{nil, {}} {
		r := rings(t, 4, room.Single)
		c := handler(t, r, 0, spin, 1, l...)
		if e := publish(r, 0, 1); e != nil {
			t.Fatal(e)
		}
		c.Step()
		c.Step()
		if n, e := c.Step(); e != nil || n != (api.Note{Deed: api.Handled, X: event(0)}) {
			t.Fatal(n, e)
		}
	}
}

// fill publishes as many as there is room for: the last one.
func fill(t *testing.T, r *room.Room) int64 {
	t.Helper()
	for range 99 {
		if e := publish(r, 0, 1); errors.Is(e, api.ErrFull) {
			return number(r, r.Cursor(0))
		} else if e != nil {
			t.Fatal(e)
		}
	}
	t.Fatal("nobody holds back")
	return 0
}

// P16.5: no index is claimed that is more than a size above what its cell has, from its making till it leaves, and all up to there are.
func TestHolds(t *testing.T) {
	for _, k := range kinds {
		for shift := range 4 {
			for before := range int64(7) {
				r := rings(t, 1<<shift, k)
				for range before {
					if e := publish(r, 0, 1); e != nil {
						t.Fatal(e)
					}
				}
				c := handler(t, r, 0, spin, 3)
				holds := func() {
					if last := fill(t, r); last != number(r, c.Cell())+1<<shift {
						t.Fatal(k, shift, before, last, number(r, c.Cell()))
					}
				}
				for range 60 {
					holds()
					if n, e := c.Step(); e != nil || n.Deed == api.Handled && n.X != event(n.Seq) {
						t.Fatal(n, e)
					}
				}
				if c.Next() < before+8 {
					t.Fatal(k, shift, before, c.Next())
				}
				c.Leave()
				for n := 0; !c.Left() && n < 99; n++ {
					holds()
					c.Step()
				}
				for range 3 {
					if e := publish(r, 0, 1<<shift); e != nil {
						t.Fatal(k, shift, before, e)
					}
				}
			}
		}
	}
}
