package chooser_test

import (
	"errors"
	"math"
	"noria/actor"
	"noria/api"
	"noria/barrier"
	"noria/chooser"
	"noria/fault"
	"noria/room"
	"slices"
	"testing"
)

// edges are numbers near the ends of their type, and near the bounds that the document names.
var edges = []int{math.MinInt, math.MinInt + 1, -9, -8, -2, -1, 0, 1, 2, 7, 8, 9, 63, 64, 65, math.MaxInt - 1, math.MaxInt}

// kinds are both kinds of rings.
var kinds = []room.Kind{room.Single, room.Multi}

// rings is a room with some rings of so many slots.
func rings(t *testing.T, n int, l ...room.Kind) *room.Room {
	t.Helper()
	r := room.New()
	for _, k := range l {
		if _, e := r.Ring(n, k); e != nil {
			t.Fatal(n, k, e)
		}
	}
	return r
}

// mixed is a room with as many rings as may be, of either kind.
func mixed(t *testing.T, n int) *room.Room {
	t.Helper()
	return rings(t, n, slices.Repeat(kinds, api.MaxRings/2)...)
}

// asker is a chooser.
func asker(t *testing.T, r *room.Room, l ...int) *chooser.Chooser {
	t.Helper()
	c, e := chooser.New(r, l...)
	if c == nil || e != nil {
		t.Fatal(l, c, e)
	}
	return c
}

// alloc lays so many cells.
func alloc(t *testing.T, r *room.Room, n int) []int {
	t.Helper()
	l := make([]int, n)
	for i := range l {
		var e error
		if l[i], e = r.Arena().Alloc(-1); e != nil {
			t.Fatal(e)
		}
	}
	return l
}

// event is what is sent to an index of a ring.
func event(ring int, seq int64) api.Event {
	return api.Event{Key: int64(1000*ring) + seq, Val: -7 * seq}
}

// claim claims so many indexes of a ring, and puts their events: the last one.
func claim(r *room.Room, ring, n int) (int64, error) {
	c, e := r.Claim(ring, n)
	for e == nil && !c.Done() {
		c, e = c.Step()
	}
	if e != nil {
		return 0, e
	}
	if c.Full() {
		return 0, api.ErrFull
	}
	for seq := c.Last() - int64(n) + 1; seq <= c.Last(); seq++ {
		if e := r.Slots(ring).Put(seq, event(ring, seq)); e != nil {
			return 0, e
		}
	}
	return c.Last(), nil
}

// publish lets so many events more be published.
func publish(r *room.Room, ring, n int) error {
	last, e := claim(r, ring, n)
	for seq := last - int64(n) + 1; e == nil && seq <= last; {
		seq, e = r.Show(ring, seq, last)
	}
	return e
}

// number is what a cell has, without a step.
func number(r *room.Room, id int) int64 {
	v, _ := r.Arena().Clone().Load(id)
	return v
}

// one is 1 for true.
func one(ok bool) int64 {
	if ok {
		return 1
	}
	return 0
}

// told is all that a room, and a chooser in it, tell without a step.
func told(r *room.Room, c *chooser.Chooser) []int64 {
	l := []int64{int64(c.Who()), int64(c.Alert()), int64(c.Pending()), one(c.Left()), int64(len(c.Rings()))}
	for ring := range api.MaxRings {
		l = append(l, int64(c.Cell(ring)), c.Start(ring), c.Next(ring))
	}
	next, _ := r.Clock().Next()
	l = append(l, r.Clock().Now(), next, int64(r.Clock().Waiting()), int64(r.Rings()), int64(r.Arena().Len()), int64(r.Arena().Steps()))
	a := r.Arena().Clone()
	for id := range min(a.Len(), 100) {
		v, _ := a.Load(id)
		l = append(l, v)
	}
	for who := range r.Actors().Len() {
		l = append(l, int64(r.Actors().State(who)), one(r.Actors().Token(who)), int64(r.Actors().Wakes(who)))
	}
	for id := range r.Rings() {
		for _, x := range append(r.Waiting(id), r.Gate(id).Cells()...) {
			l = append(l, int64(x))
		}
		for seq := range r.Slots(id).Size().Slots() {
			x, _ := r.Slots(id).Get(seq)
			l = append(l, x.Key, x.Val)
		}
	}
	return l
}

// refused wants a call to be refused with this error, and nothing to have changed.
func refused(t *testing.T, r *room.Room, c *chooser.Chooser, want api.Errno, call func() error) {
	t.Helper()
	was := told(r, c)
	if e := call(); !errors.Is(e, want) || !fault.Is(e, want) {
		t.Fatal(want, e)
	}
	if now := told(r, c); !slices.Equal(was, now) {
		t.Fatal(want, was, now)
	}
}

// unmade wants New to be refused with this error, and nothing to have changed.
func unmade(t *testing.T, r *room.Room, want api.Errno, l ...int) {
	t.Helper()
	refused(t, r, nil, want, func() error {
		c, e := chooser.New(r, l...)
		if c != nil {
			t.Fatal(l, "a chooser beside an error")
		}
		return e
	})
}

// P19.1: a chooser is a new actor with a new cell for its alert, and one for each ring, that begins there behind what the cursor's cell
// has, and holds the ring back.
func TestNew(t *testing.T) {
	r := mixed(t, 64)
	held := map[int][]int{}
	for i, l := range [][]int{{3}, {0}, {5, 2}, {0, 1, 2, 3, 4, 5, 6, 7}, {7, 5, 3, 1, 0, 2, 4, 6}, {6, 7, 0}} {
		last := map[int]int64{}
		for ring := range r.Rings() {
			if e := publish(r, ring, 1+ring%3); e != nil {
				t.Fatal(e)
			}
			// What is claimed counts, where many claim, what is published, where one does.
			if _, e := claim(r, ring, 1); e != nil {
				t.Fatal(e)
			}
			last[ring] = number(r, r.Cursor(ring))
		}
		was := r.Arena().Len()
		c := asker(t, r, l...)
		if c.Who() != i || r.Actors().Len() != i+1 || len(r.Actors().Runnable()) != i+1 || r.Actors().Token(i) || r.Clock().Waiting() != 0 {
			t.Fatal(i, c.Who(), r.Actors().Len())
		}
		if !slices.Equal(c.Rings(), l) || c.Pending() != 0 || c.Left() || number(r, c.Alert()) != barrier.Quiet {
			t.Fatal(i, c.Rings(), c.Pending(), c.Left(), number(r, c.Alert()))
		}
		cells := []int{c.Alert()}
		for ring := range r.Rings() {
			if !slices.Contains(l, ring) {
				none(t, c, ring)
				continue
			}
			id := c.Cell(ring)
			if number(r, id) != last[ring] || c.Start(ring) != last[ring]+1 || c.Next(ring) != last[ring]+1 {
				t.Fatal(i, ring, number(r, id), c.Start(ring), c.Next(ring), last[ring])
			}
			cells = append(cells, id)
			held[ring] = append(held[ring], id)
		}
		slices.Sort(cells)
		for j, id := range cells {
			if id != was+j || r.Arena().Len() != was+len(cells) {
				t.Fatal(i, cells, "aren't the new cells, each once", was, r.Arena().Len())
			}
		}
		for ring := range r.Rings() {
			if !slices.Equal(r.Gate(ring).Cells(), held[ring]) || len(r.Waiting(ring)) != 0 {
				t.Fatal(i, ring, r.Gate(ring).Cells(), held[ring])
			}
		}
	}
}

// none wants a ring not to be one of a chooser's.
func none(t *testing.T, c *chooser.Chooser, ring int) {
	t.Helper()
	if c.Cell(ring) != -1 || c.Start(ring) != 0 || c.Next(ring) != 0 {
		t.Fatal(ring, c.Cell(ring), c.Start(ring), c.Next(ring))
	}
}

// P19.1: a ring that it wasn't named has no cell, and no index.
func TestOthers(t *testing.T) {
	r := mixed(t, 8)
	c := asker(t, r, 1, 7)
	for _, ring := range append(edges, 5, 6, -3) {
		if ring != 1 && ring != 7 {
			none(t, c, ring)
		}
		none(t, nil, ring)
	}
	if c.Cell(1) < 0 || c.Cell(7) < 0 || c.Cell(1) == c.Cell(7) {
		t.Fatal(c.Cell(1), c.Cell(7))
	}
}

// Errors of New: the rings are gone through as they were named, and the first one that is refused is told.
func TestNewErrors(t *testing.T) {
	if c, e := chooser.New(nil, 0, 0, 9); c != nil || !errors.Is(e, api.ErrNil) {
		t.Fatal(c, e)
	}
	if c, e := chooser.New(nil); c != nil || !errors.Is(e, api.ErrNil) {
		t.Fatal(c, e)
	}
	unmade(t, room.New(), api.ErrArg)
	unmade(t, room.New(), api.ErrNone, 0)
	r := mixed(t, 1)
	for _, id := range alloc(t, r, api.MaxGroup) {
		r.Gate(3).Add(id)
	}
	wrong := func() {
		unmade(t, r, api.ErrArg)
		unmade(t, r, api.ErrArg, []int{}...)
		for _, n := range edges {
			if n < 0 || n >= api.MaxRings {
				unmade(t, r, api.ErrNone, n)
				unmade(t, r, api.ErrNone, n, 0, 0)
				unmade(t, r, api.ErrNone, n, 3)
				unmade(t, r, api.ErrNone, 0, 1, n)
				unmade(t, r, api.ErrNone, 0, 1, n, 0)
				unmade(t, r, api.ErrThere, 0, 0, n)
				unmade(t, r, api.ErrMany, 3, n)
			}
		}
		unmade(t, r, api.ErrThere, 0, 0)
		unmade(t, r, api.ErrThere, 7, 6, 5, 4, 2, 1, 0, 6)
		unmade(t, r, api.ErrThere, 2, 1, 2, 3)
		unmade(t, r, api.ErrThere, slices.Repeat([]int{5}, 100)...)
		unmade(t, r, api.ErrMany, 3)
		// What is said of a ring ends with that: it is there, and isn't taken.
		unmade(t, r, api.ErrMany, 3, 3)
		unmade(t, r, api.ErrMany, 0, 3, 0)
	}
	wrong()
	asker(t, r, 7)
	for r.Actors().Len() < api.MaxActors {
		r.Join()
	}
	wrong()
	unmade(t, r, api.ErrMany, 0)
	unmade(t, r, api.ErrMany, 7, 6)
}

// Errors of New: as many may hold each ring back, and as many actors may be, as the limits say, and no more.
func TestNewMany(t *testing.T) {
	r := rings(t, 2, kinds...)
	for i := range api.MaxGroup {
		if c := asker(t, r, 0, 1); c.Who() != i {
			t.Fatal(i, c.Who())
		}
	}
	unmade(t, r, api.ErrMany, 0)
	unmade(t, r, api.ErrMany, 1)
	r = mixed(t, 2)
	for i := range api.MaxActors {
		if c := asker(t, r, i%api.MaxRings); c.Who() != i {
			t.Fatal(i, c.Who())
		}
	}
	unmade(t, r, api.ErrMany, 0)
}

// Errors of New: where there are too few cells left, nothing is laid.
func TestNewCells(t *testing.T) {
	for k := 1; k <= api.MaxRings; k += 3 {
		for left := k - 1; left <= k+2; left++ {
			r := mixed(t, 1)
			alloc(t, r, api.MaxCells-left-r.Arena().Len())
			l := []int{7, 6, 5, 4, 3, 2, 1, 0}[:k]
			if left <= k {
				unmade(t, r, api.ErrMany, l...)
				unmade(t, r, api.ErrThere, append(l[:1:1], 7)...)
				continue
			}
			if c := asker(t, r, l...); r.Arena().Len() != api.MaxCells-left+k+1 || c.Who() != 0 || r.Gate(7).Len() != 1 {
				t.Fatal(k, left, r.Arena().Len())
			}
		}
	}
}

// P19.1, errors: nil has nothing, and every call on it is ErrNil.
func TestNil(t *testing.T) {
	var c *chooser.Chooser
	if c.Who() != -1 || c.Alert() != -1 || len(c.Rings()) != 0 || c.Pending() != 0 || c.Left() {
		t.Fatal(c.Who(), c.Alert(), c.Rings(), c.Pending(), c.Left())
	}
	if n, e := c.Step(); n != (api.Note{}) || !errors.Is(e, api.ErrNil) {
		t.Fatal(n, e)
	}
	if e := c.Leave(); !errors.Is(e, api.ErrNil) {
		t.Fatal(e)
	}
	for _, n := range edges {
		if e := c.Select(n); !errors.Is(e, api.ErrNil) {
			t.Fatal(n, e)
		}
	}
}

// R1: one that New didn't make doesn't panic either.
func TestUnmade(t *testing.T) {
	c := &chooser.Chooser{}
	for range 3 {
		c.Select(1)
		c.Step()
		c.Leave()
	}
	none(t, c, 1)
	if len(c.Rings()) != 0 {
		t.Fatal(c.Rings(), c.Who(), c.Alert(), c.Pending(), c.Left())
	}
}

// R3: what is handed in is neither changed nor kept, nor is the room behind its end; what is handed out is new.
func TestHanded(t *testing.T) {
	r := mixed(t, 2)
	l := []int{4, 1, 0, 0}
	c := asker(t, r, l[:2]...)
	if !slices.Equal(l, []int{4, 1, 0, 0}) {
		t.Fatal(l)
	}
	clear(l)
	got := c.Rings()
	_ = append(got[:1], 3)
	clear(got)
	_ = append(c.Rings(), 9)
	if !slices.Equal(c.Rings(), []int{4, 1}) {
		t.Fatal(c.Rings())
	}
	c.Select(0)
	if n := until(t, c, api.Returned); n != (api.Note{Ring: 4, Deed: api.Returned, Code: api.ErrIdle}) {
		t.Fatal(n)
	}
}

// until lets a chooser step till a deed is seen: the note of that.
func until(t *testing.T, c *chooser.Chooser, d api.Deed) api.Note {
	t.Helper()
	for range 99 {
		n, e := c.Step()
		if e != nil {
			t.Fatal(e)
		}
		if n.Deed == d {
			return n
		}
	}
	t.Fatal(d, "isn't seen")
	return api.Note{}
}

// P19.1: calls stand one behind the other, and the actor is woken by each.
func TestCalls(t *testing.T) {
	r := mixed(t, 128)
	c := asker(t, r, 3, 0)
	for _, ring := range c.Rings() {
		if e := publish(r, ring, 64); e != nil {
			t.Fatal(e)
		}
	}
	for i := range api.MaxCalls {
		if e := c.Select(i / 3); e != nil || c.Pending() != i+1 || r.Actors().Wakes(0) != i+1 || !r.Actors().Token(0) {
			t.Fatal(i, e, c.Pending(), told(r, c))
		}
	}
	var next [2]int64
	for i := range api.MaxCalls {
		if c.Pending() != api.MaxCalls-i {
			t.Fatal(i, c.Pending())
		}
		x := i / 3 % 2
		if n := until(t, c, api.Returned); n != (api.Note{Ring: c.Rings()[x], Deed: api.Returned, Lo: next[x], Seq: next[x]}) {
			t.Fatal(i, next, n)
		}
		next[x]++
		if c.Next(3) != next[0] || c.Next(0) != next[1] || c.Start(3) != 0 || c.Start(0) != 0 {
			t.Fatal(i, c.Next(3), c.Next(0), next)
		}
	}
	if c.Pending() != 0 {
		t.Fatal(c.Pending())
	}
}

// P19.1: it asks from the ring whose place is the number, modulo how many there are.
func TestFrom(t *testing.T) {
	for k := 1; k <= api.MaxRings; k++ {
		r := mixed(t, 64)
		c := asker(t, r, []int{5, 2, 7, 0, 1, 3, 6, 4}[:k]...)
		for _, ring := range c.Rings() {
			if e := publish(r, ring, 30); e != nil {
				t.Fatal(e)
			}
		}
		for _, from := range append(edges, -3, -4, -5, 3, 4, 5, 1000, -1000) {
			if e := c.Select(from); e != nil {
				t.Fatal(k, from, e)
			}
			// Of floored division.
			x := from - from/k*k
			if x < 0 {
				x += k
			}
			ring := c.Rings()[x]
			seq := c.Next(ring)
			if n := until(t, c, api.Handled); n != (api.Note{Ring: ring, Deed: api.Handled, Lo: seq, Seq: seq, X: event(ring, seq)}) {
				t.Fatal(k, from, n)
			}
			until(t, c, api.Returned)
		}
	}
}

// P19.1: who is parked is woken by a call, and by Leave, from a timer too.
func TestWoken(t *testing.T) {
	for i := range 2 {
		r := mixed(t, 2)
		c := asker(t, r, 2)
		if ok, e := r.Park(0, 9); !ok || e != nil {
			t.Fatal(ok, e)
		}
		call := []func() error{c.Leave, func() error { return c.Select(1) }}[i]
		if e := call(); e != nil || r.Actors().State(0) != actor.Ready || r.Clock().Waiting() != 0 || r.Actors().Token(0) || c.Pending() != i {
			t.Fatal(i, e, told(r, c))
		}
	}
}

// Errors of Select: how many calls.
func TestCallErrors(t *testing.T) {
	r := mixed(t, 2)
	c := asker(t, r, 2, 3)
	for i := range api.MaxCalls {
		if e := c.Select(i); e != nil {
			t.Fatal(i, e)
		}
	}
	full := func() {
		for _, n := range edges {
			refused(t, r, c, api.ErrMany, func() error { return c.Select(n) })
		}
	}
	full()
	// The call that goes on counts, till it has ended.
	c.Step()
	full()
	until(t, c, api.Returned)
	if e := c.Select(0); e != nil || c.Pending() != api.MaxCalls {
		t.Fatal(e, c.Pending())
	}
	full()
}

// closed wants Select to be refused, whatever is handed in.
func closed(t *testing.T, r *room.Room, c *chooser.Chooser) {
	t.Helper()
	for _, n := range edges {
		refused(t, r, c, api.ErrHalted, func() error { return c.Select(n) })
	}
}

// Errors of Select and Leave: one that leaves takes no call; it may be told to leave once more till it is Halted.
func TestCallsAtEnd(t *testing.T) {
	for _, leaves := range []bool{true, false} {
		r := mixed(t, 2)
		c := asker(t, r, 2, 3, 6)
		if leaves {
			c.Leave()
		} else {
			r.Arena().Store(c.Alert(), barrier.Drain)
		}
		// Up to its last look it does.
		if e := c.Select(1); e != nil {
			t.Fatal(e)
		}
		until(t, c, api.Returned)
		c.Step()
		for i := range 7 {
			closed(t, r, c)
			if e := c.Leave(); e != nil || c.Left() != (i > 4) || number(r, c.Alert()) != barrier.Alerted {
				t.Fatal(leaves, i, e, c.Left())
			}
			c.Step()
		}
		closed(t, r, c)
		if r.Actors().State(0) != actor.Halted || !c.Left() || c.Pending() != 0 {
			t.Fatal(leaves, told(r, c))
		}
		refused(t, r, c, api.ErrHalted, c.Leave)
	}
	// One that somebody else halted is neither left nor to be told, at whatever step.
	for far := range 9 {
		r := mixed(t, 2)
		c := asker(t, r, 0, 1)
		c.Select(1)
		if e := publish(r, 1, 1); e != nil {
			t.Fatal(e)
		}
		for range far {
			c.Step()
		}
		r.Halt(0)
		closed(t, r, c)
		refused(t, r, c, api.ErrHalted, c.Leave)
		if c.Left() || r.Gate(0).Len() != 1 || r.Gate(1).Len() != 1 {
			t.Fatal(far, told(r, c))
		}
	}
}

// Errors of Step: one that is parked, or halted, does none.
func TestStepErrors(t *testing.T) {
	for far := range 8 {
		r := mixed(t, 2)
		c := asker(t, r, 0, 1)
		c.Select(1)
		if e := publish(r, 1, 1); e != nil {
			t.Fatal(e)
		}
		for range far {
			c.Step()
		}
		step := func() error {
			n, e := c.Step()
			if n != (api.Note{}) {
				t.Fatal(n, "beside an error")
			}
			return e
		}
		r.Actors().Clear(0)
		r.Park(0, 5)
		refused(t, r, c, api.ErrBusy, step)
		refused(t, r, c, api.ErrBusy, step)
		r.Halt(0)
		refused(t, r, c, api.ErrHalted, step)
		refused(t, r, c, api.ErrHalted, step)
	}
}

// P19.1: it holds its rings back though its numbers were in the groups ahead of it, and leaves though somebody took them out.
func TestGroup(t *testing.T) {
	r := mixed(t, 2)
	for _, ring := range []int{1, 2} {
		for i := range 3 {
			if e := r.Gate(ring).Add(r.Arena().Len() + i); e != nil {
				t.Fatal(e)
			}
		}
	}
	c := asker(t, r, 1, 2)
	d := asker(t, r, 2, 1)
	for _, ring := range []int{1, 2} {
		if g := r.Gate(ring).Cells(); !slices.Contains(g, c.Cell(ring)) || !slices.Contains(g, d.Cell(ring)) || len(g) != 4 {
			t.Fatal(g)
		}
	}
	r.Gate(1).Drop(d.Cell(1))
	for _, x := range []*chooser.Chooser{c, d} {
		x.Leave()
		until(t, x, api.Stopped)
		if !x.Left() || slices.Contains(r.Gate(1).Cells(), x.Cell(1)) || slices.Contains(r.Gate(2).Cells(), x.Cell(2)) {
			t.Fatal(x.Left(), r.Gate(1).Cells(), r.Gate(2).Cells())
		}
	}
}

// R5: two choosers are each for itself.
func TestApart(t *testing.T) {
	r := mixed(t, 4)
	a, b := asker(t, r, 0, 1), asker(t, r, 1, 0)
	if e := publish(r, 1, 2); e != nil {
		t.Fatal(e)
	}
	a.Select(0)
	until(t, a, api.Returned)
	a.Leave()
	until(t, a, api.Stopped)
	if b.Pending() != 0 || b.Next(1) != 0 || b.Left() || r.Actors().Token(1) || number(r, b.Alert()) != barrier.Quiet {
		t.Fatal(told(r, b))
	}
	b.Select(0)
	if n := until(t, b, api.Returned); n != (api.Note{Who: 1, Ring: 1, Deed: api.Returned}) || a.Next(1) != 1 || b.Next(1) != 1 {
		t.Fatal(n, a.Next(1), b.Next(1))
	}
}

// fill publishes as many of a ring as there is room for: the last one.
func fill(t *testing.T, r *room.Room, ring int) int64 {
	t.Helper()
	for range 99 {
		if e := publish(r, ring, 1); errors.Is(e, api.ErrFull) {
			return number(r, r.Cursor(ring))
		} else if e != nil {
			t.Fatal(e)
		}
	}
	t.Fatal("nobody holds back")
	return 0
}

// It holds each of its rings back from its making till it leaves that: no index is claimed that is more than a size above what its cell
// has, and all up to there are.
func TestHolds(t *testing.T) {
	for shift := range 4 {
		for before := range 5 {
			r := mixed(t, 1<<shift)
			for ring := range 4 {
				for range before + ring {
					if e := publish(r, ring, 1); e != nil {
						t.Fatal(e)
					}
				}
			}
			c := asker(t, r, 2, 1, 3)
			holds := func() {
				for _, ring := range c.Rings() {
					if !slices.Contains(r.Gate(ring).Cells(), c.Cell(ring)) {
						continue
					}
					if last := fill(t, r, ring); last != number(r, c.Cell(ring))+1<<shift {
						t.Fatal(shift, before, ring, last, number(r, c.Cell(ring)))
					}
				}
			}
			for i := range 120 {
				c.Select(i / 7)
				holds()
				if n, e := c.Step(); e != nil || n.Deed == api.Handled && n.X != event(n.Ring, n.Seq) {
					t.Fatal(n, e)
				}
			}
			for _, ring := range c.Rings() {
				if c.Next(ring) < int64(before+ring)+4 {
					t.Fatal(shift, before, ring, c.Next(ring))
				}
			}
			c.Leave()
			for n := 0; !c.Left() && n < 99; n++ {
				holds()
				c.Step()
			}
			for range 3 {
				for _, ring := range c.Rings() {
					if e := publish(r, ring, 1<<shift); e != nil {
						t.Fatal(shift, before, ring, e)
					}
				}
			}
		}
	}
}
