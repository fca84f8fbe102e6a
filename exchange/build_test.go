package exchange_test

import (
	"math"
	"noria/actor"
	"noria/api"
	"noria/exchange"
	"noria/room"
	"noria/wait"
	"slices"
	"testing"
)

// spec is one that spins, and handles one event at once, behind some.
func spec(after ...int) exchange.Spec { return exchange.Spec{Way: spin, Batch: 1, After: after} }

// unbuilt wants Build to be refused with this error, and nothing to have changed, of what was handed in either.
func unbuilt(t *testing.T, x *exchange.Exchange, want api.Errno, ring int, l ...exchange.Spec) {
	t.Helper()
	var was []int
	for _, s := range l {
		was = append(was, s.After...)
	}
	refused(t, x, want, func() error {
		who, e := x.Build(ring, l...)
		if len(who) != 0 {
			t.Fatal(who, "beside an error")
		}
		return e
	})
	var now []int
	for _, s := range l {
		now = append(now, s.After...)
	}
	if !slices.Equal(was, now) {
		t.Fatal(was, now)
	}
}

// P20.1, examples 1 and 2: those who are behind others stand anywhere in the list.
func TestBuildExamples(t *testing.T) {
	x := made(t, 2, room.Single)
	if l, e := x.Build(0, spec(1), spec()); e != nil || !slices.Equal(l, []int{1, 0}) || x.Len() != 2 || !x.Behind(1, 0) || x.Behind(0, 1) {
		t.Fatal(l, e)
	}
	y := made(t, 2, room.Single)
	if unbuilt(t, y, api.ErrCycle, 0, spec(1), spec(0)); y.Len() != 0 || y.Room().Actors().Len() != 0 {
		t.Fatal(y.Len())
	}
}

// P20.1: they are made in layer 13's Order: of those that may stand next the least place comes first.
func TestBuildOrder(t *testing.T) {
	wants := []struct {
		after [][]int
		who   []int
	}{
		{[][]int{nil}, []int{0}},
		{[][]int{nil, nil, nil}, []int{0, 1, 2}},
		{[][]int{{2}, nil, nil}, []int{2, 0, 1}},
		{[][]int{{1}, {2}, {3}, nil}, []int{3, 2, 1, 0}},
		{[][]int{nil, {0}, {0}, {1, 2}}, []int{0, 1, 2, 3}},
		{[][]int{{3, 1}, nil, {1}, nil, {0, 2}}, []int{3, 0, 1, 2, 4}},
		{[][]int{{4}, nil, {0}, {1}, nil}, []int{3, 0, 4, 1, 2}},
		{[][]int{{2, 1}, {2}, nil}, []int{2, 1, 0}},
	}
	for i, w := range wants {
		for first := range 3 {
			x := made(t, 4, room.Multi, room.Multi)
			for range first {
				must(t)(x.Producer(0, spin))
			}
			var l []exchange.Spec
			for _, after := range w.after {
				l = append(l, spec(after...))
			}
			who, e := x.Build(1, l...)
			if e != nil || len(who) != len(w.who) || x.Len() != first+len(who) {
				t.Fatal(i, who, e)
			}
			for place := range who {
				if who[place] != first+w.who[place] {
					t.Fatal(i, first, who, w.who)
				}
				if k, ok := x.Kind(who[place]); !ok || k != exchange.Consumer || !slices.Equal(x.Rings(who[place]), []int{1}) {
					t.Fatal(i, place, k, x.Rings(who[place]))
				}
			}
			direct(t, x, who, w.after)
		}
	}
}

// direct wants those who were built to be behind just those that they are to be behind.
func direct(t *testing.T, x *exchange.Exchange, who []int, after [][]int) {
	t.Helper()
	var reach func(i, j int) bool
	reach = func(i, j int) bool {
		return slices.ContainsFunc(after[i], func(k int) bool { return k == j || reach(k, j) })
	}
	for i := range who {
		for j := range who {
			if x.Behind(who[i], who[j]) != reach(i, j) {
				t.Fatal(i, j, x.Behind(who[i], who[j]))
			}
		}
	}
}

// P20.1: each is built with its own way, and its own batch.
func TestBuildParts(t *testing.T) {
	x := made(t, 16, room.Single)
	l := some(t)(x.Build(0, exchange.Spec{Way: block, Batch: 3, After: []int{1}}, exchange.Spec{Way: timed, Batch: 64}, exchange.Spec{Way: yield, Batch: 1}))
	p := must(t)(x.Producer(0, spin))
	for range 2 {
		done(t, x.Send(p, make([]api.Event, 5)...))
	}
	for x.Pending(p) > 0 {
		stepped(t, x, p)
	}
	var most [3]int64
	for range 200 {
		for place, who := range l {
			if x.State(who) != actor.Ready {
				continue
			}
			if n := stepped(t, x, who); n.Deed == api.Moved {
				most[place] = max(most[place], n.Seq-n.Lo+1)
			}
		}
	}
	if most != [3]int64{3, 10, 1} {
		t.Fatal(most)
	}
	if x.State(l[0]) != actor.Parked || x.State(l[1]) != actor.Parked || x.State(l[2]) != actor.Ready {
		t.Fatal(x.State(l[0]), x.State(l[1]), x.State(l[2]))
	}
	if _, e := x.Tick(4); e != nil || x.State(l[0]) != actor.Parked || x.State(l[1]) != actor.Ready {
		t.Fatal(e, x.State(l[0]), x.State(l[1]))
	}
}

// P20.1, errors: of Build, each by itself, and its edges.
func TestBuildErrors(t *testing.T) {
	x := made(t, 4, room.Multi)
	for _, n := range edges {
		if n != 0 {
			unbuilt(t, x, api.ErrNone, n)
			unbuilt(t, x, api.ErrNone, n, spec())
		}
		if n < 1 || n > api.MaxBatch {
			unbuilt(t, x, api.ErrArg, 0, spec(), exchange.Spec{Batch: n})
		}
		if n < 0 || n > 2 {
			unbuilt(t, x, api.ErrNone, 0, spec(), spec(0, n), spec())
		}
	}
	unbuilt(t, x, api.ErrArg, 0)
	unbuilt(t, x, api.ErrArg, 0, spec(), exchange.Spec{Way: wait.Way{Kind: 4}, Batch: 1})
	unbuilt(t, x, api.ErrRange, 0, spec(), exchange.Spec{Way: wait.Way{Kind: wait.Yield, Tries: -1}, Batch: 1})
	unbuilt(t, x, api.ErrRange, 0, exchange.Spec{Way: wait.Way{Kind: wait.Timed, Time: math.MaxInt64}, Batch: 1})
	unbuilt(t, x, api.ErrCycle, 0, spec(0))
	unbuilt(t, x, api.ErrCycle, 0, spec(), spec(0, 1))
	unbuilt(t, x, api.ErrCycle, 0, spec(1), spec(2), spec(3), spec(0))
	unbuilt(t, x, api.ErrThere, 0, spec(), spec(), spec(1, 0, 1))
	unbuilt(t, x, api.ErrNone, 0, spec(), spec(2))
	// Those that the exchange has already aren't named by places.
	must(t)(x.Consumer(0, spin, 1))
	unbuilt(t, x, api.ErrCycle, 0, spec(0))
	unbuilt(t, x, api.ErrNone, 0, spec(1))
}

// P20.1, errors: of Build in order: the first one that applies is told.
func TestBuildFirst(t *testing.T) {
	x := made(t, 4, room.Multi)
	bad := exchange.Spec{Way: wait.Way{Kind: 9}, Batch: 0, After: []int{9}}
	late := exchange.Spec{Way: wait.Way{Kind: wait.Timed}, Batch: 0, After: []int{9}}
	none := exchange.Spec{Way: block, Batch: 65, After: []int{9}}
	unbuilt(t, x, api.ErrNone, 1, bad)
	// Spec by spec, of each the way, then the batch.
	unbuilt(t, x, api.ErrArg, 0, bad, late)
	unbuilt(t, x, api.ErrRange, 0, late, bad)
	unbuilt(t, x, api.ErrArg, 0, none, late)
	unbuilt(t, x, api.ErrRange, 0, spec(9), late, bad)
	many := slices.Repeat([]exchange.Spec{spec(0, 0, 99)}, api.MaxActors+1)
	unbuilt(t, x, api.ErrMany, 0, many...)
	unbuilt(t, x, api.ErrMany, 0, append(slices.Clone(many), many...)...)
	unbuilt(t, x, api.ErrRange, 0, append(slices.Clone(many), late)...)
	unbuilt(t, x, api.ErrArg, 0, append(slices.Clone(many), bad)...)
	// As many as there may be: who is behind whom comes first, then that they would hold the ring back.
	unbuilt(t, x, api.ErrCycle, 0, many[:api.MaxActors]...)
	unbuilt(t, x, api.ErrMany, 0, slices.Repeat([]exchange.Spec{spec()}, api.MaxActors)...)
	// Place by place, as each After names them.
	unbuilt(t, x, api.ErrCycle, 0, spec(), spec(1, 7), spec(9))
	unbuilt(t, x, api.ErrNone, 0, spec(), spec(7, 1), spec(2))
	unbuilt(t, x, api.ErrThere, 0, spec(), spec(0, 0, 1, 7))
	unbuilt(t, x, api.ErrNone, 0, spec(1), spec(5), spec(2))
	unbuilt(t, x, api.ErrCycle, 0, spec(1), spec(0, 5))
	// The link that closes the circle is the one that is refused.
	unbuilt(t, x, api.ErrThere, 0, spec(1, 1), spec(0))
}

// P20.1, errors: as many as may hold the ring back, as many actors, as many cells as the limits say, and no more.
func TestBuildMany(t *testing.T) {
	l := slices.Repeat([]exchange.Spec{spec()}, api.MaxGroup)
	for held := range 4 {
		x := made(t, 2, room.Single, room.Multi)
		for range held {
			must(t)(x.Poller(1, spin))
		}
		unbuilt(t, x, api.ErrMany, 1, append(l[:api.MaxGroup-held:api.MaxGroup-held], spec())...)
		if who, e := x.Build(1, l[held:]...); e != nil || len(who) != api.MaxGroup-held || x.Room().Gate(1).Len() != api.MaxGroup {
			t.Fatal(held, who, e)
		}
		unbuilt(t, x, api.ErrMany, 1, spec())
		// 32 actors there are, and a producer.
		must(t)(x.Producer(0, spin))
		unbuilt(t, x, api.ErrMany, 0, l...)
		if who, e := x.Build(0, l[1:]...); e != nil || len(who) != api.MaxGroup-1 || x.Len() != api.MaxActors {
			t.Fatal(held, who, e)
		}
		unbuilt(t, x, api.ErrMany, 0, spec())
	}
	for left := range 6 {
		x := made(t, 2, room.Single)
		fill(t, x, left)
		was := x.Room().Arena().Len()
		who, e := x.Build(0, spec(1), spec())
		if left < 4 {
			if len(who) != 0 || e == nil || x.Len() != 0 || x.Room().Arena().Len() != was || x.Room().Gate(0).Len() != 0 || x.Room().Arena().Steps() != 0 {
				t.Fatal(left, who, e)
			}
			unbuilt(t, x, api.ErrMany, 0, spec(1), spec())
			continue
		}
		if e != nil || len(who) != 2 || x.Room().Arena().Len() != was+4 {
			t.Fatal(left, who, e)
		}
	}
}
