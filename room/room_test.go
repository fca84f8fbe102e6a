package room_test

import (
	"errors"
	"math"
	"noria/actor"
	"noria/api"
	"noria/cells"
	"noria/fault"
	"noria/room"
	"noria/slots"
	"slices"
	"testing"
)

// edges are numbers near the ends of their type, and near the bounds that the document names.
var edges = []int64{math.MinInt64, math.MinInt64 + 1, -api.MaxSeq, -2, -1, 0, 1, 2, 3, 7, 8, 9, 63, 64, 65, api.MaxTime - 1, api.MaxTime, api.MaxTime + 1, api.MaxSeq - 1, api.MaxSeq, api.MaxSeq + 1, math.MaxInt64 - 1, math.MaxInt64}

// kinds are both kinds of rings.
var kinds = []room.Kind{room.Single, room.Multi}

// ring wants a room to have a ring more.
func ring(t *testing.T, r *room.Room, n int, k room.Kind) int {
	t.Helper()
	want := r.Rings()
	id, e := r.Ring(n, k)
	if id != want || e != nil || r.Rings() != want+1 {
		t.Fatal(n, k, id, want, r.Rings(), e)
	}
	return id
}

// join wants a room to have an actor more.
func join(t *testing.T, r *room.Room, vals ...int64) int {
	t.Helper()
	want := r.Actors().Len()
	who, _, e := r.Join(vals...)
	if who != want || e != nil {
		t.Fatal(who, want, e)
	}
	return who
}

// halted is a room with so many actors, the last one of which is halted.
func halted(t *testing.T, n int) *room.Room {
	t.Helper()
	r := room.New()
	for range n {
		join(t, r)
	}
	if e := r.Halt(n - 1); e != nil {
		t.Fatal(e)
	}
	return r
}

// crammed is a room whose arena has so many cells left.
func crammed(t *testing.T, left int) *room.Room {
	t.Helper()
	r := room.New()
	for r.Arena().Len() < api.MaxCells-left {
		if _, e := r.Arena().Alloc(0); e != nil {
			t.Fatal(e)
		}
	}
	return r
}

// numbers are what an arena's cells have. It asks a clone: a load is a step.
func numbers(a *cells.Arena) []int64 {
	b := a.Clone()
	l := make([]int64, 0, b.Len())
	for id := range b.Len() {
		v, _ := b.Load(id)
		l = append(l, v)
	}
	return l
}

// timers are the times and the actors of all timers, as they are told.
func timers(r *room.Room) []int64 {
	var l []int64
	c := r.Clock().Clone()
	for at, ok := c.Next(); ok; at, ok = c.Next() {
		who, _ := c.Tick(at - c.Now())
		for _, w := range who {
			l = append(l, at, int64(w))
		}
	}
	return l
}

// told is all that a room tells without a step, but for how many steps there were.
func told(r *room.Room) [][]int64 {
	l := [][]int64{{r.Clock().Now(), int64(r.Actors().Len()), int64(r.Rings())}, numbers(r.Arena()), timers(r)}
	for who := range r.Actors().Len() {
		token := int64(0)
		if r.Actors().Token(who) {
			token = 1
		}
		l = append(l, []int64{int64(r.Actors().State(who)), token, int64(r.Actors().Wakes(who))})
	}
	for id := range r.Rings() {
		l = append(l, []int64{int64(r.Cursor(id)), int64(r.Shown(id).Cell(0)), r.Slots(id).Size().Slots()})
		l = append(l, plus(r.Gate(id).Cells()), plus(r.Waiting(id)))
		for seq := range min(16, r.Slots(id).Size().Slots()) {
			x, _ := r.Slots(id).Get(seq)
			l = append(l, []int64{x.Key, x.Val})
		}
	}
	return l
}

// plus are numbers as longer ones.
func plus(l []int) []int64 {
	var m []int64
	for _, n := range l {
		m = append(m, int64(n))
	}
	return m
}

// same says whether two rooms tell the same.
func same(a, b [][]int64) bool { return slices.EqualFunc(a, b, slices.Equal) }

// refused wants a call to be refused with this error, and nothing to have changed.
func refused(t *testing.T, r *room.Room, want api.Errno, call func() (bool, error)) {
	t.Helper()
	was := told(r)
	zero, e := call()
	if !zero || !errors.Is(e, want) || !fault.Is(e, want) {
		t.Fatal(want, zero, e)
	}
	if now := told(r); !same(was, now) {
		t.Fatal(want, was, now)
	}
}

// P14.1: a new room has nothing; its parts are its own, and stay.
func TestNew(t *testing.T) {
	r, other := room.New(), room.New()
	if r.Arena().Len() != 0 || r.Arena().Steps() != 0 || r.Actors().Len() != 0 || r.Rings() != 0 || r.Clock().Now() != 0 || r.Clock().Waiting() != 0 {
		t.Fatal(told(r))
	}
	if r.Arena() != r.Arena() || r.Clock() != r.Clock() || r.Actors() != r.Actors() {
		t.Fatal("a part is another one the next time")
	}
	if r.Arena() == other.Arena() || r.Clock() == other.Clock() || r.Actors() == other.Actors() {
		t.Fatal("two rooms have a part together")
	}
	id, e := r.Arena().Alloc(5)
	who, f := r.Actors().Add()
	_, g := r.Clock().Tick(7)
	if id != 0 || e != nil || who != 0 || f != nil || g != nil || r.Arena().Len() != 1 || r.Actors().Len() != 1 || r.Clock().Now() != 7 {
		t.Fatal(told(r), e, f, g)
	}
	if other.Arena().Len() != 0 || other.Actors().Len() != 0 || other.Clock().Now() != 0 {
		t.Fatal(told(other))
	}
}

// P14.1: rings of both kinds, of all sizes, are numbered from 0 on, in cells of the arena, one behind the other.
func TestRing(t *testing.T) {
	if room.Single != 0 || room.Multi != 1 {
		t.Fatal(room.Single, room.Multi)
	}
	for shift := 0; shift <= api.MaxShift; shift++ {
		r := room.New()
		for id, k := range []room.Kind{room.Multi, room.Single} {
			was := r.Arena().Len()
			ring(t, r, 1<<shift, k)
			laid := r.Arena().Len() - was
			switch {
			case r.Many(id) != (k == room.Multi) || r.Slots(id).Size().Slots() != 1<<shift || r.Gate(id) == nil || r.Gate(id).Len() != 0:
				t.Fatal(shift, id, r.Many(id), r.Slots(id).Size().Slots(), r.Gate(id).Len())
			case r.Cursor(id) < was || r.Cursor(id) >= was+laid:
				t.Fatal(shift, id, r.Cursor(id), was, laid)
			case k == room.Single && (laid != 1 || r.Shown(id) != nil):
				t.Fatal(shift, id, laid, r.Shown(id))
			case k == room.Multi && (laid != 1<<shift+2 || r.Shown(id) == nil || r.Shown(id).Cell(0) < was || r.Shown(id).Cell(0) == r.Cursor(id)):
				t.Fatal(shift, id, laid, r.Shown(id).Cell(0), r.Cursor(id))
			}
			for _, v := range numbers(r.Arena())[was:] {
				if v != -1 {
					t.Fatal(shift, id, v)
				}
			}
		}
	}
}

// P14.1: what a ring has is its own, and stays: what is done with it holds.
func TestParts(t *testing.T) {
	for _, k := range kinds {
		r := room.New()
		ring(t, r, 2, k)
		ring(t, r, 2, k)
		if r.Slots(0) != r.Slots(0) || r.Gate(0) != r.Gate(0) || r.Shown(0) != r.Shown(0) || r.Slots(0) == r.Slots(1) || r.Gate(0) == r.Gate(1) || r.Cursor(0) == r.Cursor(1) {
			t.Fatal(k, "a part of a ring is another one's, or another one the next time")
		}
		if e := r.Slots(1).Put(3, api.Event{Key: 7}); e != nil {
			t.Fatal(k, e)
		}
		x, _ := r.Slots(1).Get(3)
		y, _ := r.Slots(0).Get(3)
		if x.Key != 7 || y.Key != 0 {
			t.Fatal(k, x, y)
		}
		held, _ := r.Arena().Alloc(-1)
		if e := r.Gate(1).Add(held); e != nil {
			t.Fatal(k, e)
		}
		full(t, r, 0, 2, 1, false)
		full(t, r, 1, 2, 1, true)
	}
}

// full claims so many of a ring, publishes them, and says whether then there is no room for so many more.
func full(t *testing.T, r *room.Room, id, n, more int, want bool) {
	t.Helper()
	c := claim(t, r, id, n)
	if c.Full() || c.Last() != int64(n-1) {
		t.Fatal(id, n, c.Full(), c.Last())
	}
	for at := int64(0); at <= c.Last(); {
		next, e := r.Show(id, at, c.Last())
		if e != nil || next <= at {
			t.Fatal(id, at, next, e)
		}
		at = next
	}
	if c := claim(t, r, id, more); c.Full() != want {
		t.Fatal(id, more, c.Full(), want)
	}
}

// claim is a Claim that is gone on with till it is done.
func claim(t *testing.T, r *room.Room, id, n int) room.Claim {
	t.Helper()
	c, e := r.Claim(id, n)
	for e == nil && !c.Done() {
		c, e = c.Step()
	}
	if e != nil {
		t.Fatal(id, n, e)
	}
	return c
}

// P14.1: of a ring that isn't there, and of nil, there is nothing; whoever asks changes nothing.
func TestNone(t *testing.T) {
	rooms := []*room.Room{nil, room.New(), room.New()}
	for id := range api.MaxRings {
		ring(t, rooms[2], 1<<id, kinds[id%2])
	}
	for _, r := range rooms {
		for _, n := range edges {
			id := int(n)
			if 0 <= id && id < r.Rings() {
				continue
			}
			if r.Many(id) || r.Slots(id) != nil || r.Gate(id) != nil || r.Cursor(id) != -1 || r.Shown(id) != nil || len(r.Waiting(id)) != 0 {
				t.Fatal(r.Rings(), id, r.Many(id), r.Slots(id), r.Gate(id), r.Cursor(id), r.Shown(id), r.Waiting(id))
			}
		}
	}
	if r := rooms[0]; r.Arena() != nil || r.Clock() != nil || r.Actors() != nil || r.Rings() != 0 {
		t.Fatal(r.Arena(), r.Clock(), r.Actors(), r.Rings())
	}
}

// calls are all calls that answer an error, of a ring, an actor or a cell's number that is handed in; each says whether what it
// answers beside the error is zero (a zero Claim is done).
func calls(r *room.Room, n int64) map[string]func() (bool, error) {
	i := int(n)
	return map[string]func() (bool, error){
		"ring":      func() (bool, error) { id, e := r.Ring(2, room.Multi); return id == 0, e },
		"claim":     func() (bool, error) { c, e := r.Claim(i, 1); return c.Done(), e },
		"show":      func() (bool, error) { next, e := r.Show(i, 0, 0); return next == 0, e },
		"published": func() (bool, error) { last, e := r.Published(i, 0); return last == 0, e },
		"join":      func() (bool, error) { who, l, e := r.Join(n); return who == 0 && len(l) == 0, e },
		"enlist":    func() (bool, error) { return true, r.Enlist(i, 0) },
		"signal":    func() (bool, error) { k, e := r.Signal(i); return k == 0, e },
		"park":      func() (bool, error) { ok, e := r.Park(i, 1); return !ok, e },
		"wake":      func() (bool, error) { ok, e := r.Wake(i); return !ok, e },
		"tick":      func() (bool, error) { l, e := r.Tick(1); return len(l) == 0, e },
		"halt":      func() (bool, error) { return true, r.Halt(i) },
	}
}

// Errors: every call on nil is ErrNil, whatever else is wrong.
func TestNil(t *testing.T) {
	for _, n := range edges {
		for name, call := range calls(nil, n) {
			if zero, e := call(); !zero || !errors.Is(e, api.ErrNil) {
				t.Fatal(name, n, zero, e)
			}
		}
	}
	var r *room.Room
	_, a := r.Ring(3, 9)
	_, b := r.Show(0, 2, 1)
	_, c := r.Published(0, -1)
	_, d := r.Park(0, -1)
	_, f := r.Tick(0)
	for i, e := range []error{a, b, c, d, f} {
		if !errors.Is(e, api.ErrNil) {
			t.Fatal(i, e)
		}
	}
}

// Errors: of Ring the Kind comes first, then the size, then how many rings there are, then the cells.
func TestRingErrors(t *testing.T) {
	r := room.New()
	want := func(n int, k room.Kind, want api.Errno) {
		t.Helper()
		refused(t, r, want, func() (bool, error) { id, e := r.Ring(n, k); return id == 0, e })
	}
	wrong := func() {
		t.Helper()
		for _, k := range []room.Kind{math.MinInt, -2, -1, 2, 3, math.MaxInt} {
			for _, n := range []int{math.MinInt, -1, 0, 1, 3, 4, 1<<api.MaxShift + 1} {
				want(n, k, api.ErrArg)
			}
		}
		for _, k := range kinds {
			for _, n := range []int{math.MinInt, -2, -1, 0, 3, 5, 6, 1<<api.MaxShift - 1, 1<<api.MaxShift + 1, 1 << (api.MaxShift + 1), math.MaxInt} {
				want(n, k, api.ErrSize)
			}
		}
	}
	wrong()
	for id := range api.MaxRings {
		ring(t, r, 1, kinds[id%2])
	}
	wrong()
	want(1, room.Single, api.ErrMany)
	want(1<<api.MaxShift, room.Multi, api.ErrMany)
}

// Errors: a ring needs one cell, or one for each slot and two more.
func TestRingCells(t *testing.T) {
	r := crammed(t, 6)
	want := func(n int, k room.Kind) {
		t.Helper()
		refused(t, r, api.ErrMany, func() (bool, error) { id, e := r.Ring(n, k); return id == 0, e })
	}
	want(8, room.Multi)
	want(1<<api.MaxShift, room.Multi)
	ring(t, r, 4, room.Multi)
	want(1, room.Multi)
	want(1, room.Single)
	want(1<<api.MaxShift, room.Single)
	r = crammed(t, 3)
	ring(t, r, 1<<api.MaxShift, room.Single)
	want(1, room.Multi)
	ring(t, r, 8, room.Single)
	ring(t, r, 8, room.Single)
	want(8, room.Single)
}

// Errors: of a ring that isn't there all calls with a ring are ErrNone, whatever else is wrong.
func TestRingNone(t *testing.T) {
	r := halted(t, 2)
	for id := range 3 {
		ring(t, r, 2, kinds[id%2])
	}
	for _, n := range edges {
		id := int(n)
		if 0 <= id && id < 3 {
			continue
		}
		for _, name := range []string{"claim", "show", "published", "enlist", "signal"} {
			refused(t, r, api.ErrNone, calls(r, n)[name])
		}
		refused(t, r, api.ErrNone, func() (bool, error) { c, e := r.Claim(id, 0); return c.Done(), e })
		refused(t, r, api.ErrNone, func() (bool, error) { next, e := r.Show(id, 2, 1); return next == 0, e })
		refused(t, r, api.ErrNone, func() (bool, error) { last, e := r.Published(id, -1); return last == 0, e })
		refused(t, r, api.ErrNone, func() (bool, error) { return true, r.Enlist(id, 1) })
		refused(t, r, api.ErrNone, func() (bool, error) { return true, r.Enlist(id, 2) })
	}
}

// Errors: an actor that isn't there is ErrNone, one that is Halted ErrHalted; of Park the deadline comes first.
func TestActorErrors(t *testing.T) {
	r := halted(t, 3)
	ring(t, r, 2, room.Single)
	if _, e := r.Tick(5); e != nil {
		t.Fatal(e)
	}
	for _, n := range edges {
		who := int(n)
		want := api.ErrNone
		if who == 2 {
			want = api.ErrHalted
		} else if who == 0 || who == 1 {
			continue
		}
		refused(t, r, want, func() (bool, error) { return true, r.Enlist(0, who) })
		refused(t, r, want, func() (bool, error) { ok, e := r.Wake(who); return !ok, e })
		refused(t, r, want, func() (bool, error) { return true, r.Halt(who) })
		for _, deadline := range []int64{0, 1, 5, 6, api.MaxTime} {
			refused(t, r, want, func() (bool, error) { ok, e := r.Park(who, deadline); return !ok, e })
		}
	}
	for _, who := range []int{-1, 0, 1, 2, 3} {
		for _, deadline := range edges {
			if deadline < 0 || deadline > api.MaxTime {
				refused(t, r, api.ErrRange, func() (bool, error) { ok, e := r.Park(who, deadline); return !ok, e })
			}
		}
	}
}

// Errors: Tick's are the clock's.
func TestTickErrors(t *testing.T) {
	r := room.New()
	join(t, r)
	r.Park(0, 9)
	r.Tick(4)
	for _, d := range edges {
		want := api.ErrArg
		if d > api.MaxTime-4 {
			want = api.ErrRange
		} else if d > 0 {
			continue
		}
		refused(t, r, want, func() (bool, error) { l, e := r.Tick(d); return len(l) == 0, e })
	}
	if l, e := r.Tick(api.MaxTime - 4); !slices.Equal(l, []int{0}) || e != nil || r.Clock().Now() != api.MaxTime {
		t.Fatal(l, e, r.Clock().Now())
	}
}

// P14.6: Join makes an actor, and cells one behind the other; what is handed in is neither changed nor kept.
func TestJoin(t *testing.T) {
	r := room.New()
	ring(t, r, 4, room.Multi)
	was := r.Arena().Len()
	vals := []int64{7, math.MinInt64, math.MaxInt64, -1}
	who, ids, e := r.Join(vals...)
	if who != 0 || e != nil || !slices.Equal(ids, []int{was, was + 1, was + 2, was + 3}) || !slices.Equal(numbers(r.Arena())[was:], vals) || r.Actors().State(0) != actor.Ready {
		t.Fatal(who, ids, e, numbers(r.Arena()))
	}
	ids[0], vals[1] = 99, 99
	if slices.Contains(numbers(r.Arena()), 99) || r.Arena().Steps() != 0 {
		t.Fatal(numbers(r.Arena()))
	}
	who, ids, e = r.Join()
	if who != 1 || len(ids) != 0 || e != nil || r.Arena().Len() != was+4 {
		t.Fatal(who, ids, e, r.Arena().Len())
	}
	who, ids, e = r.Join(5)
	if who != 2 || !slices.Equal(ids, []int{was + 4}) || e != nil {
		t.Fatal(who, ids, e)
	}
}

// Errors of Join: too many actors, or too few cells, and then there is neither an actor nor a cell more.
func TestJoinErrors(t *testing.T) {
	r := room.New()
	for range api.MaxActors {
		join(t, r, 1)
	}
	refused(t, r, api.ErrMany, func() (bool, error) { who, l, e := r.Join(); return who == 0 && len(l) == 0, e })
	refused(t, r, api.ErrMany, func() (bool, error) { who, l, e := r.Join(1, 2); return who == 0 && len(l) == 0, e })
	r = crammed(t, 3)
	refused(t, r, api.ErrMany, func() (bool, error) { who, l, e := r.Join(1, 2, 3, 4); return who == 0 && len(l) == 0, e })
	join(t, r, 1, 2)
	refused(t, r, api.ErrMany, func() (bool, error) { who, l, e := r.Join(1, 2); return who == 0 && len(l) == 0, e })
	join(t, r, 1)
	refused(t, r, api.ErrMany, func() (bool, error) { who, l, e := r.Join(1); return who == 0 && len(l) == 0, e })
	join(t, r)
	join(t, r)
}

// P14.1: the slots are layer 6's.
func TestSlots(t *testing.T) {
	r := room.New()
	ring(t, r, 2, room.Single)
	var s *slots.Ring = r.Slots(0)
	k, e := s.Fill(0, api.Event{Key: 1}, api.Event{Key: 2}, api.Event{Key: 3})
	x, f := r.Slots(0).Get(0)
	if k != 2 || e != nil || x.Key != 3 || f != nil {
		t.Fatal(k, x, e, f)
	}
}
