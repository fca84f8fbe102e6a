package pool_test

import (
	"errors"
	"math"
	"noria/api"
	"noria/barrier"
	"noria/fault"
	"noria/pool"
	"noria/room"
	"noria/wait"
	"slices"
	"testing"
)

// edges are numbers near the ends of their type, and near the bounds that the document names.
var edges = []int{math.MinInt, -2, -1, 0, 1, 2, 7, 8, 15, 16, 17, 31, 32, 33, 63, 64, 65, math.MaxInt}

// kinds are both kinds of rings.
var kinds = []room.Kind{room.Single, room.Multi}

// spin is a way of waiting.
var spin = wait.Way{Kind: wait.Spin}

// rings is a room with some rings of so many slots.
func rings(t *testing.T, n int, l ...room.Kind) *room.Room {
	t.Helper()
	r := room.New()
	for _, k := range l {
		if _, e := r.Ring(n, k); e != nil {
			t.Fatal(n, k, e)
		}
	}
	return r
}

// gang is a pool.
func gang(t *testing.T, r *room.Room, ring int, w wait.Way, n int, after ...int) *pool.Pool {
	t.Helper()
	p, e := pool.New(r, ring, w, n, after...)
	if p == nil || e != nil {
		t.Fatal(ring, w, n, after, p, e)
	}
	return p
}

// alloc lays so many cells.
func alloc(t *testing.T, r *room.Room, n int) []int {
	t.Helper()
	l := make([]int, n)
	for i := range l {
		var e error
		if l[i], e = r.Arena().Alloc(-1); e != nil {
			t.Fatal(e)
		}
	}
	return l
}

// event is what is sent to an index.
func event(seq int64) api.Event { return api.Event{Key: 100 + seq, Val: -7 * seq} }

// claim claims so many indexes of a ring, and puts their events: the last one.
func claim(r *room.Room, ring, n int) (int64, error) {
	c, e := r.Claim(ring, n)
	for e == nil && !c.Done() {
		c, e = c.Step()
	}
	if e != nil {
		return 0, e
	}
	if c.Full() {
		return 0, api.ErrFull
	}
	for seq := c.Last() - int64(n) + 1; seq <= c.Last(); seq++ {
		if e := r.Slots(ring).Put(seq, event(seq)); e != nil {
			return 0, e
		}
	}
	return c.Last(), nil
}

// publish lets so many events more be published.
func publish(r *room.Room, ring, n int) error {
	last, e := claim(r, ring, n)
	for seq := last - int64(n) + 1; e == nil && seq <= last; {
		seq, e = r.Show(ring, seq, last)
	}
	return e
}

// number is what a cell has, without a step.
func number(r *room.Room, id int) int64 { return numbers(r, id)[0] }

// numbers are what some cells have, without a step.
func numbers(r *room.Room, ids ...int) []int64 {
	a := r.Arena().Clone()
	l := make([]int64, len(ids))
	for i, id := range ids {
		l[i], _ = a.Load(id)
	}
	return l
}

// one is 1 for true.
func one(ok bool) int64 {
	if ok {
		return 1
	}
	return 0
}

// told is all that a room, and a pool in it, tell without a step.
func told(r *room.Room, p *pool.Pool) []int64 {
	l := []int64{int64(p.Ring()), p.Start(), int64(len(p.Workers()))}
	for _, x := range p.Workers() {
		l = append(l, int64(x.Who()), int64(x.Cell()), int64(x.Alert()), one(x.Ends()))
	}
	next, _ := r.Clock().Next()
	l = append(l, r.Clock().Now(), next, int64(r.Clock().Waiting()), int64(r.Rings()), int64(r.Arena().Len()), int64(r.Arena().Steps()))
	a := r.Arena().Clone()
	for id := range min(a.Len(), 100) {
		v, _ := a.Load(id)
		l = append(l, v)
	}
	for who := range r.Actors().Len() {
		l = append(l, int64(r.Actors().State(who)), one(r.Actors().Token(who)), int64(r.Actors().Wakes(who)))
	}
	for id := range r.Rings() {
		for _, x := range append(r.Waiting(id), r.Gate(id).Cells()...) {
			l = append(l, int64(x))
		}
		for seq := range r.Slots(id).Size().Slots() {
			x, _ := r.Slots(id).Get(seq)
			l = append(l, x.Key, x.Val)
		}
	}
	return l
}

// refused wants a call to be refused with this error, and nothing to have changed.
func refused(t *testing.T, r *room.Room, p *pool.Pool, want api.Errno, call func() error) {
	t.Helper()
	was := told(r, p)
	if e := call(); !errors.Is(e, want) || !fault.Is(e, want) {
		t.Fatal(want, e)
	}
	if now := told(r, p); !slices.Equal(was, now) {
		t.Fatal(want, was, now)
	}
}

// unmade wants New to be refused with this error, and nothing to have changed.
func unmade(t *testing.T, r *room.Room, want api.Errno, ring int, w wait.Way, n int, after ...int) {
	t.Helper()
	refused(t, r, nil, want, func() error {
		p, e := pool.New(r, ring, w, n, after...)
		if p != nil {
			t.Fatal(ring, w, n, after, "a pool beside an error")
		}
		return e
	})
}

// own are the workers' own cells.
func own(p *pool.Pool) []int {
	var l []int
	for _, x := range p.Workers() {
		l = append(l, x.Cell())
	}
	return l
}

// sorted are the same numbers, rising.
func sorted(l ...int) []int {
	l = slices.Clone(l)
	slices.Sort(l)
	return l
}

// made wants a new pool to have so many workers, new cells behind so many others, all of them at the same index, and to hold its ring back.
func made(t *testing.T, r *room.Room, p *pool.Pool, n, cells, actors int, last int64, held []int) {
	t.Helper()
	if len(p.Workers()) != n || r.Actors().Len() != actors+n || len(r.Actors().Runnable()) != actors+n || r.Arena().Len() != cells+2*n+1 {
		t.Fatal(len(p.Workers()), r.Actors().Len(), r.Arena().Len())
	}
	all := slices.Clone(p.Cells())
	if len(all) != n+1 || !slices.Equal(all[1:], own(p)) || p.Start() != last+1 {
		t.Fatal(all, own(p), p.Start(), last)
	}
	for i, x := range p.Workers() {
		if x.Who() != actors+i || r.Actors().Token(x.Who()) || x.Ends() || number(r, x.Alert()) != barrier.Quiet {
			t.Fatal(i, x.Who(), x.Ends(), number(r, x.Alert()))
		}
		all = append(all, x.Alert())
	}
	for i, id := range sorted(all...) {
		if id != cells+i {
			t.Fatal(all, "aren't the new cells, each once")
		}
	}
	for i, v := range numbers(r, p.Cells()...) {
		if v != last {
			t.Fatal(i, v, last)
		}
	}
	if d, e := p.Done(); d != last || e != nil {
		t.Fatal(d, e, last)
	}
	if !slices.Equal(sorted(r.Gate(p.Ring()).Cells()...), sorted(append(p.Cells(), held...)...)) {
		t.Fatal(r.Gate(p.Ring()).Cells(), p.Cells(), held)
	}
}

// P17.1: a pool's workers are new actors, with new cells, that begin behind what the cursor's cell has; all but the alerts hold the ring back.
func TestNew(t *testing.T) {
	for _, k := range kinds {
		r := rings(t, 64, k, room.Multi, k)
		var held [3][]int
		for i, ring := range []int{2, 0, 2, 2, 1, 0} {
			if e := publish(r, ring, 1+i); e != nil {
				t.Fatal(e)
			}
			// What is claimed counts, where many claim, what is published, where one does.
			last, e := claim(r, ring, 1)
			if e != nil {
				t.Fatal(e)
			}
			if k == room.Single && ring != 1 {
				if last--; last != number(r, r.Cursor(ring)) {
					t.Fatal(last, "isn't what is published")
				}
			}
			cells, actors, n := r.Arena().Len(), r.Actors().Len(), 1+i
			p := gang(t, r, ring, wait.Way{Kind: wait.Kind(i % 4), Tries: 3, Time: 5}, n, held[ring]...)
			if p.Ring() != ring || len(r.Waiting(ring)) != 0 || r.Clock().Waiting() != 0 {
				t.Fatal(i, p.Ring(), r.Waiting(ring))
			}
			made(t, r, p, n, cells, actors, last, held[ring])
			held[ring] = append(held[ring], p.Cells()...)
		}
	}
}

// P17.1: of all numbers of workers.
func TestNewAll(t *testing.T) {
	for _, k := range kinds {
		for n := 1; n <= api.MaxPool; n++ {
			r := rings(t, 1, k)
			made(t, r, gang(t, r, 0, spin, n), n, r.Arena().Len()-2*n-1, 0, -1, nil)
		}
	}
}

// R3: what is handed out is new, but for the workers, which are the pool's own.
func TestHandedOut(t *testing.T) {
	r := rings(t, 4, room.Single)
	p := gang(t, r, 0, spin, 3)
	cells, workers := p.Cells(), p.Workers()
	was, who := slices.Clone(cells), slices.Clone(workers)
	clear(cells)
	clear(workers)
	_ = append(p.Cells()[:1], 77)
	_ = append(p.Workers()[:1], nil)
	if !slices.Equal(p.Cells(), was) || !slices.Equal(p.Workers(), who) {
		t.Fatal(p.Cells(), p.Workers())
	}
	made(t, r, p, 3, r.Arena().Len()-7, 0, -1, nil)
}

// Errors of New: the first one that applies is told, whatever else is wrong.
func TestNewOrder(t *testing.T) {
	wants := []api.Errno{api.ErrNone, api.ErrRange, api.ErrArg, api.ErrNone, api.ErrMany, api.ErrThere}
	for _, crowd := range []func(*testing.T, *room.Room){crowdGroup, crowdActors} {
		for _, k := range kinds {
			for wrong := 1; wrong < 1<<len(wants); wrong++ {
				is := func(i int) bool { return wrong>>i&1 == 1 }
				r := rings(t, 2, k)
				after := alloc(t, r, 3)
				ring, w, n := 0, wait.Way{Kind: wait.Yield}, 1
				want := api.Errno(0)
				for i := len(wants) - 1; i >= 0; i-- {
					if is(i) {
						want = wants[i]
					}
				}
				if is(0) {
					ring = 1
				}
				if is(1) {
					w.Tries = 1001
				}
				if is(2) {
					n = 17
				}
				if is(4) {
					crowd(t, r)
				}
				if is(5) {
					after = append(after, after[1])
				}
				if is(3) {
					after = append(after, r.Arena().Len())
				}
				unmade(t, r, want, ring, w, n, after...)
			}
		}
	}
	if p, e := pool.New(nil, 9, wait.Way{Kind: 9}, 0, -1); p != nil || !errors.Is(e, api.ErrNil) {
		t.Fatal(p, e)
	}
}

// crowdGroup lets a ring be held back by so many that a worker, and one more, are too many.
func crowdGroup(t *testing.T, r *room.Room) {
	t.Helper()
	hold(t, r, 0, api.MaxGroup-1)
}

// hold lets so many hold a ring back.
func hold(t *testing.T, r *room.Room, ring, n int) {
	t.Helper()
	for _, id := range alloc(t, r, n) {
		if e := r.Gate(ring).Add(id); e != nil {
			t.Fatal(e)
		}
	}
}

// crowdActors lets there be as many actors as may be.
func crowdActors(t *testing.T, r *room.Room) {
	t.Helper()
	act(t, r, api.MaxActors)
}

// act lets there be so many actors more.
func act(t *testing.T, r *room.Room, n int) {
	t.Helper()
	for range n {
		if _, _, e := r.Join(); e != nil {
			t.Fatal(e)
		}
	}
}

// Errors of New: the edges of each number.
func TestNewEdges(t *testing.T) {
	unmade(t, room.New(), api.ErrNone, 0, spin, 1)
	for _, k := range kinds {
		r := rings(t, 2, room.Multi, k)
		for _, n := range edges {
			if n < 0 || n > 1 {
				unmade(t, r, api.ErrNone, n, spin, 1)
				unmade(t, r, api.ErrNone, n, wait.Way{Kind: 4}, 0, -1)
			}
			if n < 1 || n > api.MaxPool {
				unmade(t, r, api.ErrArg, 1, spin, n)
			}
			if n < 0 || n >= r.Arena().Len() {
				unmade(t, r, api.ErrNone, 1, spin, 1, n)
				unmade(t, r, api.ErrNone, 1, spin, 1, 0, 1, n, 1)
			}
		}
		unmade(t, r, api.ErrNone, 1, spin, 1, r.Arena().Len())
		unmade(t, r, api.ErrNone, 1, spin, 1, 0, r.Arena().Len(), 0)
		for _, n := range []wait.Kind{math.MinInt, -1, 4, math.MaxInt} {
			unmade(t, r, api.ErrArg, 1, wait.Way{Kind: n}, 1)
		}
		for _, n := range []int{math.MinInt, -1, 1001, math.MaxInt} {
			unmade(t, r, api.ErrRange, 1, wait.Way{Kind: wait.Yield, Tries: n}, 0)
		}
		for _, n := range []int64{math.MinInt64, -1, 0, 1<<30 + 1, math.MaxInt64} {
			unmade(t, r, api.ErrRange, 1, wait.Way{Kind: wait.Timed, Time: n}, 0)
		}
		gang(t, r, 1, spin, 1, 0, r.Arena().Len()-1)
		gang(t, r, 1, wait.Way{Kind: wait.Timed, Time: 1 << 30}, api.MaxPool)
	}
}

// Errors of New: a cell that is named twice, or too many of them.
func TestNewAhead(t *testing.T) {
	for _, n := range []int{1, 2, api.MaxPool} {
		r := rings(t, 2, room.Single)
		l := alloc(t, r, 40)
		most := l[:api.MaxGroup]
		unmade(t, r, api.ErrThere, 0, spin, n, l[0], l[0])
		unmade(t, r, api.ErrThere, 0, spin, n, l[3], l[1], l[2], l[3])
		unmade(t, r, api.ErrMany, 0, spin, n, l[:api.MaxGroup+1]...)
		unmade(t, r, api.ErrMany, 0, spin, n, l...)
		unmade(t, r, api.ErrThere, 0, spin, n, append(slices.Clone(most), l[31])...)
		unmade(t, r, api.ErrThere, 0, spin, n, append(slices.Clone(most), l[0], l[32])...)
		unmade(t, r, api.ErrMany, 0, spin, n, append(slices.Clone(most), l[32], l[0])...)
		p := gang(t, r, 0, spin, n, most...)
		made(t, r, p, n, r.Arena().Len()-2*n-1, 0, -1, nil)
	}
}

// Errors of New: as many may hold a ring back, as many actors and as many cells may be, as the limits say, and no more.
func TestNewMany(t *testing.T) {
	for _, k := range kinds {
		for n := 1; n <= api.MaxPool; n++ {
			for more := range 3 {
				r := rings(t, 2, k, k)
				hold(t, r, 1, api.MaxGroup-n-1-1+more)
				fits(t, r, 1, n, more < 2)
				// Another ring's group doesn't count.
				fits(t, r, 0, n, true)
				r = rings(t, 2, k)
				act(t, r, api.MaxActors-n-1+more)
				fits(t, r, 0, n, more < 2)
			}
		}
	}
	r := rings(t, 2, room.Multi)
	alloc(t, r, api.MaxCells-2*api.MaxPool-r.Arena().Len())
	for n := api.MaxPool; n > 0; n -= 5 {
		left := api.MaxCells - r.Arena().Len()
		alloc(t, r, left-2*n)
		fits(t, r, 0, n, false)
	}
	for n := 1; n <= api.MaxPool; n += 5 {
		r := rings(t, 2, room.Single)
		alloc(t, r, api.MaxCells-2*n-1-r.Arena().Len())
		if n < api.MaxPool {
			fits(t, r, 0, n+1, false)
		}
		fits(t, r, 0, n, true)
	}
}

// fits wants a pool of so many to be made, or to be refused, as too many.
func fits(t *testing.T, r *room.Room, ring, n int, ok bool) {
	t.Helper()
	if !ok {
		unmade(t, r, api.ErrMany, ring, spin, n)
		unmade(t, r, api.ErrMany, ring, spin, n, 0, 0)
		unmade(t, r, api.ErrNone, ring, spin, n, -1)
		unmade(t, r, api.ErrArg, ring, spin, 0)
		return
	}
	cells, actors, held := r.Arena().Len(), r.Actors().Len(), r.Gate(ring).Cells()
	made(t, r, gang(t, r, ring, spin, n), n, cells, actors, number(r, r.Cursor(ring)), held)
}

// P17.1, errors: nil has nothing, and every call on it is ErrNil.
func TestNil(t *testing.T) {
	var p *pool.Pool
	if p.Ring() != -1 || p.Start() != 0 || len(p.Cells()) != 0 || len(p.Workers()) != 0 {
		t.Fatal(p.Ring(), p.Start(), p.Cells(), p.Workers())
	}
	if d, e := p.Done(); d != 0 || !errors.Is(e, api.ErrNil) {
		t.Fatal(d, e)
	}
	var x *pool.Worker
	if x.Who() != -1 || x.Cell() != -1 || x.Alert() != -1 || x.Ends() {
		t.Fatal(x.Who(), x.Cell(), x.Alert(), x.Ends())
	}
	if n, e := x.Step(); n != (api.Note{}) || !errors.Is(e, api.ErrNil) {
		t.Fatal(n, e)
	}
}

// R1: those that New didn't make don't panic either.
func TestUnmade(t *testing.T) {
	p, x := &pool.Pool{}, &pool.Worker{}
	for range 3 {
		if _, e := p.Done(); e == nil {
			t.Fatal("done with what?")
		}
		if _, e := x.Step(); e == nil {
			t.Fatal("a step of whom?")
		}
	}
	if len(p.Cells()) != 0 || len(p.Workers()) != 0 || x.Alert() != -1 {
		t.Fatal(p.Cells(), p.Workers(), p.Ring(), p.Start(), x.Who(), x.Cell(), x.Alert(), x.Ends())
	}
}

// Errors of Step: one that is parked, or halted, does none; the others go on.
func TestStepErrors(t *testing.T) {
	for _, k := range kinds {
		for far := range 9 {
			r := rings(t, 2, k)
			p := gang(t, r, 0, spin, 2)
			if e := publish(r, 0, 1); e != nil {
				t.Fatal(e)
			}
			x := p.Workers()[1]
			for range far {
				x.Step()
			}
			r.Park(1, 5)
			step(t, r, p, x, api.ErrBusy)
			step(t, r, p, x, api.ErrBusy)
			r.Halt(1)
			step(t, r, p, x, api.ErrHalted)
			step(t, r, p, x, api.ErrHalted)
			if _, e := p.Workers()[0].Step(); e != nil {
				t.Fatal(e)
			}
		}
	}
}

// step wants a step to be refused with this error.
func step(t *testing.T, r *room.Room, p *pool.Pool, x *pool.Worker, want api.Errno) {
	t.Helper()
	refused(t, r, p, want, func() error {
		n, e := x.Step()
		if n != (api.Note{}) {
			t.Fatal(n, "beside an error")
		}
		return e
	})
}

// P17.1: Done is the least that the shared cell and the workers' own have.
func TestDone(t *testing.T) {
	r := rings(t, 4, room.Single)
	alloc(t, r, 2)
	p := gang(t, r, 0, spin, 3)
	for _, l := range [][]int64{{5, 6, 7, 8}, {6, 5, 7, 8}, {7, 6, 5, 8}, {8, 7, 6, 5}, {5, 5, 5, 5}, {5, pool.Free, pool.Free, pool.Free}, {9, pool.Free, 5, pool.Free}} {
		for i, id := range p.Cells() {
			r.Arena().Store(id, l[i])
		}
		for range 2 {
			if d, e := p.Done(); d != 5 || e != nil {
				t.Fatal(l, d, e)
			}
		}
		if now := numbers(r, p.Cells()...); !slices.Equal(now, l) {
			t.Fatal(l, now)
		}
	}
}

// The number of one that holds nobody back is the greatest one.
func TestFree(t *testing.T) {
	if pool.Free != math.MaxInt64 {
		t.Fatal(pool.Free)
	}
}

// R3: the cells that are named are neither changed nor kept, nor is the room behind their end.
func TestHandedIn(t *testing.T) {
	r := rings(t, 4, room.Single)
	a := gang(t, r, 0, spin, 1)
	l := append(a.Cells(), 77, 78)
	was := slices.Clone(l)
	p := gang(t, r, 0, spin, 2, l[:2]...)
	if !slices.Equal(l, was) {
		t.Fatal(l, was)
	}
	for i := range l {
		l[i] = r.Cursor(0)
	}
	if e := publish(r, 0, 1); e != nil {
		t.Fatal(e)
	}
	for range 9 {
		for _, x := range p.Workers() {
			if n, e := x.Step(); e != nil || n.Deed != api.Silent {
				t.Fatal(n, e, "it is behind those")
			}
		}
	}
}

// R4: no cells, and a nil list, are one.
func TestNobodyAhead(t *testing.T) {
	for _, l := range [][]int{nil, {}} {
		r := rings(t, 4, room.Single)
		x := gang(t, r, 0, spin, 1, l...).Workers()[0]
		if e := publish(r, 0, 1); e != nil {
			t.Fatal(e)
		}
		for range 4 {
			x.Step()
		}
		if n, e := x.Step(); e != nil || n != (api.Note{Deed: api.Handled, X: event(0)}) {
			t.Fatal(n, e)
		}
	}
}

// fill publishes as many as there is room for: the last one.
func fill(t *testing.T, r *room.Room) int64 {
	t.Helper()
	for range 99 {
		if e := publish(r, 0, 1); errors.Is(e, api.ErrFull) {
			return number(r, r.Cursor(0))
		} else if e != nil {
			t.Fatal(e)
		}
	}
	t.Fatal("nobody holds back")
	return 0
}

// P17.4: no index is claimed that is more than a size above Done, and all up to there are; whoever steps, and those that are free hold
// nobody back but by what all share.
func TestHolds(t *testing.T) {
	for _, k := range kinds {
		for shift := range 4 {
			for before := range int64(5) {
				r := rings(t, 1<<shift, k)
				for range before {
					if e := publish(r, 0, 1); e != nil {
						t.Fatal(e)
					}
				}
				p := gang(t, r, 0, spin, 3)
				for i := range 400 {
					d, e := p.Done()
					if last := fill(t, r); e != nil || last != d+1<<shift {
						t.Fatal(k, shift, before, last, d, e)
					}
					// The last one is asleep now and then, and all are told to stop at last.
					x := p.Workers()[i%(2+i/100%2)]
					if i == 300 {
						for _, x := range p.Workers() {
							r.Arena().Store(x.Alert(), barrier.Alerted)
						}
					}
					x.Step()
				}
				d, e := p.Done()
				if l := numbers(r, own(p)...); e != nil || d < before+4 || d != number(r, p.Cells()[0]) || slices.Min(l) != pool.Free {
					t.Fatal(k, shift, before, d, e, l)
				}
				if !slices.Equal(sorted(r.Gate(0).Cells()...), sorted(p.Cells()...)) {
					t.Fatal(r.Gate(0).Cells(), p.Cells())
				}
			}
		}
	}
}

// It holds the ring back though its number was in the group ahead of it.
func TestGroup(t *testing.T) {
	r := rings(t, 2, room.Single)
	if e := r.Gate(0).Add(r.Arena().Len()); e != nil {
		t.Fatal(e)
	}
	p := gang(t, r, 0, spin, 2)
	for _, id := range p.Cells() {
		if !slices.Contains(r.Gate(0).Cells(), id) {
			t.Fatal(id, r.Gate(0).Cells())
		}
	}
}
