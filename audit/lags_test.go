package audit_test

import (
	"errors"
	"math"
	"noria/api"
	"noria/audit"
	"noria/exchange"
	"noria/fault"
	"noria/pool"
	"noria/room"
	"slices"
	"testing"
)

// edges are numbers that are no ring's, where there are three.
var edges = []int{math.MinInt, -2, -1, 3, 4, 8, 64, math.MaxInt}

// lags wants just these to hold a ring back, and nothing to change by asking.
func lags(t *testing.T, x *exchange.Exchange, ring int, want ...audit.Lag) {
	t.Helper()
	was := told(x)
	if l := audit.Lags(x, ring); !slices.Equal(l, want) {
		t.Fatal(l, want)
	}
	if len(want) == 0 {
		unlast(t, x, ring, api.ErrIdle)
	} else {
		// The greatest, of several the first.
		most := want[0]
		for _, g := range want {
			if g.By > most.By {
				most = g
			}
		}
		if g, e := audit.Last(x, ring); g != most || e != nil {
			t.Fatal(g, e, most)
		}
	}
	if now := told(x); !slices.Equal(was, now) {
		t.Fatal(was, now)
	}
}

// unlast wants Last to be refused with this error, and nothing beside it.
func unlast(t *testing.T, x *exchange.Exchange, ring int, want api.Errno) {
	t.Helper()
	if g, e := audit.Last(x, ring); g != (audit.Lag{}) || !errors.Is(e, want) || !fault.Is(e, want) {
		t.Fatal(ring, g, e, want)
	}
}

// P24.2, errors: there is no exchange; there is no such ring; nobody holds it back. With each of them there is no lag.
func TestLastErrors(t *testing.T) {
	for _, ring := range append([]int{0, 1, 2}, edges...) {
		unlast(t, nil, ring, api.ErrNil)
		unlast(t, &exchange.Exchange{}, ring, api.ErrNone)
		unlast(t, exchange.New(), ring, api.ErrNone)
		for _, x := range []*exchange.Exchange{nil, {}, exchange.New()} {
			if l := audit.Lags(x, ring); len(l) != 0 {
				t.Fatal(l)
			}
		}
	}
	x := made(t, 2, room.Single, room.Multi, room.Single)
	must(t)(x.Producer(0, spin))
	must(t)(x.Consumer(1, spin, 1))
	for _, ring := range edges {
		was := told(x)
		if unlast(t, x, ring, api.ErrNone); len(audit.Lags(x, ring)) != 0 || !slices.Equal(was, told(x)) {
			t.Fatal(ring, audit.Lags(x, ring))
		}
	}
	lags(t, x, 0)
	lags(t, x, 1, audit.Lag{Who: 1})
	lags(t, x, 2)
}

// P24.2: by how much who holds a ring back is below the cursor: 0, if it isn't, below 0, if it is above.
func TestLags(t *testing.T) {
	for _, g := range bothKinds {
		for _, k := range holders {
			x := made(t, 4, g, g)
			join(t, x, k, 0)
			who := join(t, x, k, 1)
			for _, last := range []int64{-1, 0, 3, 1000, api.MaxSeq} {
				cursor(t, x, 1, last)
				for _, by := range []int64{0, 1, 3, 4, 5, 1000, -1, -2, -77} {
					at(t, x, who, 1, last-by)
					lags(t, x, 1, audit.Lag{Who: who, By: by})
					lags(t, x, 0, audit.Lag{})
				}
			}
		}
	}
}

// P24.2: by rising numbers; of several that lag most the first is the last.
func TestLast(t *testing.T) {
	x := made(t, 4, room.Multi, room.Single)
	sent(t, x, 0, 3)
	a := must(t)(x.Consumer(0, spin, 1))
	h := must(t)(x.Chooser(1, 0))
	l := some(t)(x.Pool(0, spin, 2, a))
	o := must(t)(x.Poller(0, spin, l[0]))
	lags(t, x, 0, audit.Lag{Who: a}, audit.Lag{Who: h}, audit.Lag{Who: l[0]}, audit.Lag{Who: l[1]}, audit.Lag{Who: o})
	lags(t, x, 1, audit.Lag{Who: h})
	cursor(t, x, 0, 9)
	for who, v := range map[int]int64{a: 9, h: 4, l[0]: 6, l[1]: 4, o: 5} {
		at(t, x, who, 0, v)
	}
	lags(t, x, 0, audit.Lag{Who: a}, audit.Lag{Who: h, By: 5}, audit.Lag{Who: l[0], By: 3}, audit.Lag{Who: l[1], By: 5}, audit.Lag{Who: o, By: 4})
	// All above the cursor: the one that is least so.
	cursor(t, x, 0, 2)
	lags(t, x, 0, audit.Lag{Who: a, By: -7}, audit.Lag{Who: h, By: -2}, audit.Lag{Who: l[0], By: -4}, audit.Lag{Who: l[1], By: -2}, audit.Lag{Who: o, By: -3})
}

// P24.2: who is Free is none of them, nor who isn't in the group, nor the cell that a pool's workers share.
func TestLagsLeft(t *testing.T) {
	x := made(t, 4, room.Single)
	l := some(t)(x.Pool(0, block, 2))
	c := must(t)(x.Consumer(0, block, 1))
	sent(t, x, 0, 2)
	lags(t, x, 0, audit.Lag{Who: l[0], By: 2}, audit.Lag{Who: l[1], By: 2}, audit.Lag{Who: c, By: 2})
	done(t, x.Alert(l[0]))
	settle(t, x, l[0])
	lags(t, x, 0, audit.Lag{Who: l[1], By: 2}, audit.Lag{Who: c, By: 2})
	if _, e := x.Remove(c); e != nil {
		t.Fatal(e)
	}
	// Till it leaves it holds back.
	for !x.Left(c) {
		lags(t, x, 0, audit.Lag{Who: l[1], By: 2}, audit.Lag{Who: c, By: 2})
		steps(t, x, c, 1)
	}
	lags(t, x, 0, audit.Lag{Who: l[1], By: 2})
	done(t, x.Room().Gate(0).Drop(x.Cell(l[1], 0)))
	lags(t, x, 0)
	// Whoever it is, and whether it has left: what counts is the group, and what the cell has.
	done(t, x.Room().Gate(0).Add(x.Cell(c, 0)))
	lags(t, x, 0, audit.Lag{Who: c, By: 2})
	at(t, x, c, 0, pool.Free)
	lags(t, x, 0)
}

// P24.2, R6: where the difference would be beyond the ends of its type, it is at that end.
func TestLagsEnds(t *testing.T) {
	x := made(t, 4, room.Single)
	who := must(t)(x.Consumer(0, spin, 1))
	for _, w := range []struct{ cursor, at, by int64 }{
		{-1, math.MinInt64, math.MaxInt64},
		{0, math.MinInt64, math.MaxInt64},
		{-2, math.MinInt64, math.MaxInt64 - 1},
		{math.MaxInt64, math.MinInt64, math.MaxInt64},
		{math.MaxInt64, -1, math.MaxInt64},
		{math.MaxInt64, 0, math.MaxInt64},
		{math.MaxInt64, 1, math.MaxInt64 - 1},
		{math.MinInt64, 0, math.MinInt64},
		{math.MinInt64, 1, math.MinInt64},
		{math.MinInt64, math.MinInt64, 0},
		{math.MinInt64, -1, math.MinInt64 + 1},
		{math.MinInt64, math.MaxInt64 - 1, math.MinInt64},
		{-1, math.MaxInt64 - 1, math.MinInt64 + 1},
		{-2, math.MaxInt64 - 1, math.MinInt64},
		{-3, math.MaxInt64 - 1, math.MinInt64},
	} {
		cursor(t, x, 0, w.cursor)
		at(t, x, who, 0, w.at)
		lags(t, x, 0, audit.Lag{Who: who, By: w.by})
	}
}

// P24.2: as events come, and are handled.
func TestLagsRun(t *testing.T) {
	for _, g := range bothKinds {
		x := made(t, 8, g)
		a := must(t)(x.Consumer(0, spin, 2))
		b := must(t)(x.Consumer(0, spin, 1, a))
		sent(t, x, 0, 5)
		lags(t, x, 0, audit.Lag{Who: a, By: 5}, audit.Lag{Who: b, By: 5})
		for i := 0; len(audit.Lags(x, 0)) == 2; i++ {
			l := audit.Lags(x, 0)
			if l[0].By > l[1].By {
				t.Fatal(l)
			}
			if l[1].By == 0 {
				break
			}
			if steps(t, x, []int{a, b}[i%2], 1); i > 999 {
				t.Fatal(l)
			}
		}
		lags(t, x, 0, audit.Lag{Who: a}, audit.Lag{Who: b})
	}
}
