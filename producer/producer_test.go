package producer_test

import (
	"errors"
	"math"
	"noria/actor"
	"noria/api"
	"noria/barrier"
	"noria/fault"
	"noria/producer"
	"noria/room"
	"noria/wait"
	"slices"
	"testing"
)

// edges are numbers near the ends of their type, and near the bounds that the document names.
var edges = []int{math.MinInt, -2, -1, 0, 1, 2, 7, 8, 9, 63, 64, 65, math.MaxInt}

// kinds are both kinds of rings.
var kinds = []room.Kind{room.Single, room.Multi}

// spin is a way of waiting.
var spin = wait.Way{Kind: wait.Spin}

// rings is a room with some rings of so many slots.
func rings(t *testing.T, n int, l ...room.Kind) *room.Room {
	t.Helper()
	r := room.New()
	for _, k := range l {
		if _, e := r.Ring(n, k); e != nil {
			t.Fatal(n, k, e)
		}
	}
	return r
}

// sender is a producer.
func sender(t *testing.T, r *room.Room, ring int, w wait.Way) *producer.Producer {
	t.Helper()
	p, e := producer.New(r, ring, w)
	if p == nil || e != nil {
		t.Fatal(ring, w, p, e)
	}
	return p
}

// events are so many, whose keys go on from one on.
func events(n int, key int64) []api.Event {
	l := make([]api.Event, n)
	for i := range l {
		l[i] = api.Event{Key: key + int64(i), Val: -key}
	}
	return l
}

// number is what a cell has, without a step.
func number(r *room.Room, id int) int64 {
	v, _ := r.Arena().Clone().Load(id)
	return v
}

// told is all that a room, and a producer in it, tell without a step.
func told(r *room.Room, p *producer.Producer) []int64 {
	next, _ := r.Clock().Next()
	l := []int64{int64(p.Pending()), int64(p.Wants()), r.Clock().Now(), next, int64(r.Clock().Waiting()), int64(r.Rings()), int64(r.Arena().Len())}
	for id := range min(r.Arena().Len(), 100) {
		l = append(l, number(r, id))
	}
	for who := range r.Actors().Len() {
		token := int64(0)
		if r.Actors().Token(who) {
			token = 1
		}
		l = append(l, int64(r.Actors().State(who)), token, int64(r.Actors().Wakes(who)))
	}
	for id := range r.Rings() {
		for _, who := range r.Waiting(id) {
			l = append(l, int64(who))
		}
		for seq := range r.Slots(id).Size().Slots() {
			x, _ := r.Slots(id).Get(seq)
			l = append(l, x.Key, x.Val)
		}
	}
	return l
}

// refused wants a call to be refused with this error, and nothing to have changed.
func refused(t *testing.T, r *room.Room, p *producer.Producer, want api.Errno, call func() error) {
	t.Helper()
	was := told(r, p)
	if e := call(); !errors.Is(e, want) || !fault.Is(e, want) {
		t.Fatal(want, e)
	}
	if now := told(r, p); !slices.Equal(was, now) {
		t.Fatal(want, was, now)
	}
}

// unmade wants New to be refused with this error, and nothing to have changed.
func unmade(t *testing.T, r *room.Room, ring int, w wait.Way, want api.Errno) {
	t.Helper()
	refused(t, r, nil, want, func() error {
		p, e := producer.New(r, ring, w)
		if p != nil {
			t.Fatal(ring, w, "a producer beside an error")
		}
		return e
	})
}

// P15.1: a producer is a new actor with a new cell, that is Quiet.
func TestNew(t *testing.T) {
	r := rings(t, 8, room.Single, room.Multi, room.Multi)
	for i, ring := range []int{2, 0, 1, 2, 2} {
		was := r.Arena().Len()
		p := sender(t, r, ring, wait.Way{Kind: wait.Kind(i % 4), Tries: 3, Time: 5})
		if p.Who() != i || p.Ring() != ring || p.Alert() != was || r.Arena().Len() != was+1 || r.Actors().Len() != i+1 {
			t.Fatal(i, p.Who(), p.Ring(), p.Alert(), was, r.Arena().Len())
		}
		if number(r, p.Alert()) != barrier.Quiet || r.Actors().State(i) != actor.Ready || r.Actors().Token(i) || p.Pending() != 0 || p.Wants() != 0 {
			t.Fatal(i, told(r, p))
		}
		if r.Gate(ring).Len() != 0 || len(r.Waiting(ring)) != 0 {
			t.Fatal(i, r.Gate(ring).Cells(), r.Waiting(ring))
		}
	}
}

// Errors of New: the ring comes first, then the way, then how many actors there are, and cells.
func TestNewErrors(t *testing.T) {
	if p, e := producer.New(nil, 0, wait.Way{Kind: 9}); p != nil || !errors.Is(e, api.ErrNil) {
		t.Fatal(p, e)
	}
	unmade(t, room.New(), 0, spin, api.ErrNone)
	r := rings(t, 2, room.Single, room.Multi)
	for _, ring := range edges {
		if ring < 0 || ring > 1 {
			unmade(t, r, ring, spin, api.ErrNone)
			unmade(t, r, ring, wait.Way{Kind: 9}, api.ErrNone)
		}
	}
	wrong := func() {
		for _, k := range []wait.Kind{math.MinInt, -1, 4, math.MaxInt} {
			unmade(t, r, 1, wait.Way{Kind: k}, api.ErrArg)
		}
		for _, n := range []int64{math.MinInt64, -1, 1001, math.MaxInt64} {
			unmade(t, r, 1, wait.Way{Kind: wait.Yield, Tries: int(n)}, api.ErrRange)
		}
		for _, n := range []int64{math.MinInt64, -1, 0, 1<<30 + 1, math.MaxInt64} {
			unmade(t, r, 1, wait.Way{Kind: wait.Timed, Time: n}, api.ErrRange)
		}
	}
	wrong()
	for range api.MaxActors {
		sender(t, r, 1, wait.Way{Kind: wait.Timed, Time: 1 << 30})
	}
	wrong()
	unmade(t, r, 0, spin, api.ErrMany)
	unmade(t, r, 2, spin, api.ErrNone)
}

// Errors of New: without a cell there is neither an actor.
func TestNewCells(t *testing.T) {
	r := rings(t, 2, room.Multi)
	for r.Arena().Len() < api.MaxCells-1 {
		if _, e := r.Arena().Alloc(0); e != nil {
			t.Fatal(e)
		}
	}
	if p := sender(t, r, 0, spin); p.Alert() != api.MaxCells-1 || r.Actors().Len() != 1 {
		t.Fatal(p.Alert(), r.Actors().Len())
	}
	for range 2 {
		if p, e := producer.New(r, 0, spin); p != nil || !errors.Is(e, api.ErrMany) || r.Actors().Len() != 1 || r.Arena().Len() != api.MaxCells {
			t.Fatal(p, e, r.Actors().Len(), r.Arena().Len())
		}
	}
}

// P15.1, errors: nil has nothing, and every call on it is ErrNil.
func TestNil(t *testing.T) {
	var p *producer.Producer
	if p.Who() != -1 || p.Ring() != -1 || p.Alert() != -1 || p.Pending() != 0 || p.Wants() != 0 {
		t.Fatal(p.Who(), p.Ring(), p.Alert(), p.Pending(), p.Wants())
	}
	n, e := p.Step()
	if n != (api.Note{}) || !errors.Is(e, api.ErrNil) {
		t.Fatal(n, e)
	}
	for _, l := range [][]api.Event{nil, events(1, 1), events(65, 1)} {
		if e, f := p.Send(l...), p.Offer(l...); !errors.Is(e, api.ErrNil) || !errors.Is(f, api.ErrNil) {
			t.Fatal(len(l), e, f)
		}
	}
}

// P15.1: calls stand one behind the other, and the actor is woken by each.
func TestCalls(t *testing.T) {
	for _, k := range kinds {
		r := rings(t, 64, k)
		p := sender(t, r, 0, spin)
		for i := range api.MaxCalls {
			call, n := p.Send, 1+i%3
			if i%2 == 1 {
				call = p.Offer
			}
			if e := call(events(n, 1)...); e != nil || p.Pending() != i+1 || p.Wants() != 1 || r.Actors().Wakes(0) != i+1 || !r.Actors().Token(0) {
				t.Fatal(k, i, e, p.Pending(), p.Wants(), told(r, p))
			}
		}
		for i := range api.MaxCalls {
			if p.Pending() != api.MaxCalls-i || p.Wants() != 1+i%3 {
				t.Fatal(k, i, p.Pending(), p.Wants())
			}
			for n := (api.Note{}); n.Deed != api.Returned; {
				var e error
				if n, e = p.Step(); e != nil || n.Code != 0 || p.Wants() != 1+i%3 && n.Deed != api.Returned {
					t.Fatal(k, i, n, e)
				}
			}
		}
		if p.Pending() != 0 || p.Wants() != 0 {
			t.Fatal(k, p.Pending(), p.Wants())
		}
	}
}

// P15.1: who is parked is woken by a call, from a timer too.
func TestWoken(t *testing.T) {
	for i := range 2 {
		r := rings(t, 2, room.Multi)
		p := sender(t, r, 0, spin)
		if ok, e := r.Park(0, 9); !ok || e != nil {
			t.Fatal(ok, e)
		}
		call := []func(...api.Event) error{p.Send, p.Offer}[i]
		if e := call(events(1, 1)...); e != nil || r.Actors().State(0) != actor.Ready || r.Clock().Waiting() != 0 || r.Actors().Token(0) {
			t.Fatal(i, e, told(r, p))
		}
	}
}

// both wants a Send and an Offer to be refused.
func both(t *testing.T, r *room.Room, p *producer.Producer, want api.Errno, l ...api.Event) {
	t.Helper()
	refused(t, r, p, want, func() error { return p.Send(l...) })
	refused(t, r, p, want, func() error { return p.Offer(l...) })
}

// Errors of Send and Offer: how many events, then how many calls.
func TestCallErrors(t *testing.T) {
	for _, k := range kinds {
		for _, slots := range []int{1, 2, 8, 64, 128} {
			r := rings(t, slots, k)
			p := sender(t, r, 0, spin)
			most := min(slots, api.MaxBatch)
			wrong := func() {
				both(t, r, p, api.ErrArg)
				for _, n := range []int{most + 1, 65, 128, 1000} {
					both(t, r, p, api.ErrArg, events(n, 1)...)
				}
			}
			wrong()
			for i := range api.MaxCalls {
				call := []func(...api.Event) error{p.Send, p.Offer}[i%2]
				if e := call(events(most, 1)...); e != nil {
					t.Fatal(k, slots, i, e)
				}
			}
			wrong()
			both(t, r, p, api.ErrMany, events(1, 1)...)
			both(t, r, p, api.ErrMany, events(most, 1)...)
			// The call that goes on counts, till it has ended.
			if n, e := p.Step(); n != (api.Note{}) || e != nil {
				t.Fatal(n, e)
			}
			both(t, r, p, api.ErrMany, events(1, 1)...)
			for n := (api.Note{}); n.Deed != api.Returned; n, _ = p.Step() {
			}
			if e := p.Send(events(1, 1)...); e != nil || p.Pending() != api.MaxCalls {
				t.Fatal(k, slots, e, p.Pending())
			}
		}
	}
}

// Errors: one that is Halted is refused whatever is handed in, one that is Parked does no step.
func TestHalted(t *testing.T) {
	for _, k := range kinds {
		r := rings(t, 2, k)
		p := sender(t, r, 0, spin)
		if e := p.Send(events(1, 1)...); e != nil {
			t.Fatal(e)
		}
		step := func() error {
			n, e := p.Step()
			if n != (api.Note{}) {
				t.Fatal(n, "beside an error")
			}
			return e
		}
		r.Park(0, 0)
		r.Park(0, 5)
		if r.Actors().State(0) != actor.Parked {
			t.Fatal(told(r, p))
		}
		refused(t, r, p, api.ErrBusy, step)
		r.Halt(0)
		refused(t, r, p, api.ErrHalted, step)
		both(t, r, p, api.ErrHalted)
		both(t, r, p, api.ErrHalted, events(1, 1)...)
		both(t, r, p, api.ErrHalted, events(65, 1)...)
		if p.Pending() != 1 || p.Wants() != 1 {
			t.Fatal(p.Pending(), p.Wants())
		}
	}
}

// R3: events are neither changed nor kept, nor is the room behind their end.
func TestHandedIn(t *testing.T) {
	r := rings(t, 4, room.Single)
	p := sender(t, r, 0, spin)
	l := events(4, 1)
	if e := p.Send(l[:2]...); e != nil {
		t.Fatal(e)
	}
	if e := p.Offer(l[1:3]...); e != nil {
		t.Fatal(e)
	}
	if !slices.Equal(l, events(4, 1)) {
		t.Fatal(l)
	}
	clear(l)
	for p.Pending() > 0 {
		if _, e := p.Step(); e != nil {
			t.Fatal(e)
		}
	}
	got, e := r.Slots(0).Span(0, 3)
	want := events(4, 1)
	if e != nil || !slices.Equal(got, []api.Event{want[0], want[1], want[1], want[2]}) || !slices.Equal(l, make([]api.Event, 4)) {
		t.Fatal(got, e)
	}
}
