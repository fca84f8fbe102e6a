package clock_test

import (
	"errors"
	"math"
	"noria/api"
	"noria/clock"
	"slices"
	"testing"
)

// set sets timers, by pairs of when and who.
func set(t *testing.T, c *clock.Clock, l ...int64) {
	t.Helper()
	for i := 0; i < len(l); i += 2 {
		if e := c.Set(l[i], int(l[i+1])); e != nil {
			t.Fatal(l[i], l[i+1], e)
		}
	}
}

// tick lets time go by, and wants to be told who is woken.
func tick(t *testing.T, c *clock.Clock, d int64, want ...int) {
	t.Helper()
	if l, e := c.Tick(d); !slices.Equal(l, want) || e != nil {
		t.Fatal(d, l, e)
	}
}

// look wants a clock to tell the time, the least time of a timer (0: there is none), and how many there are.
func look(t *testing.T, c *clock.Clock, now, next int64, waiting int) {
	t.Helper()
	at, ok := c.Next()
	if c.Now() != now || at != next || ok != (next > 0) || c.Waiting() != waiting {
		t.Fatal(c.Now(), at, ok, c.Waiting())
	}
}

// The chapter's example.
func TestExample(t *testing.T) {
	var c clock.Clock
	set(t, &c, 3, 5)
	tick(t, &c, 2)
	tick(t, &c, 1, 5)
}

// A zero clock is at 0, without timers.
func TestZero(t *testing.T) {
	var c clock.Clock
	look(t, &c, 0, 0, 0)
	if c.Drop(0) != 0 {
		t.Fatal("somebody waits")
	}
	tick(t, &c, 1)
	look(t, &c, 1, 0, 0)
}

// P4.1: Now is the time, that ticks move on.
func TestNow(t *testing.T) {
	var c clock.Clock
	want := int64(0)
	for _, d := range []int64{1, 1, 2, 7, 1 << 20, api.MaxTime / 2} {
		want += d
		tick(t, &c, d)
		look(t, &c, want, 0, 0)
	}
	tick(t, &c, api.MaxTime-want)
	look(t, &c, api.MaxTime, 0, 0)
}

// P4.1: who is woken comes by rising times, of one time as set; all whose time isn't above now, and they are gone.
func TestTick(t *testing.T) {
	var c clock.Clock
	set(t, &c, 5, 9, 3, 2, 5, 1, 4, 7, 3, 0, 6, 4, 5, 3)
	look(t, &c, 0, 3, 7)
	tick(t, &c, 2)
	look(t, &c, 2, 3, 7)
	tick(t, &c, 1, 2, 0)
	look(t, &c, 3, 4, 5)
	set(t, &c, 4, 6)
	tick(t, &c, 2, 7, 6, 9, 1, 3)
	look(t, &c, 5, 6, 1)
	tick(t, &c, 100, 4)
	look(t, &c, 105, 0, 0)
	tick(t, &c, 100)
}

// P4.1: who has several timers is told for each of them.
func TestSeveral(t *testing.T) {
	var c clock.Clock
	set(t, &c, 2, 5, 2, 6, 2, 5, 1, 5, 3, 5)
	look(t, &c, 0, 1, 5)
	tick(t, &c, 2, 5, 5, 6, 5)
	tick(t, &c, 1, 5)
	look(t, &c, 3, 0, 0)
}

// P4.1: Drop lets all of one go, and nobody else's.
func TestDrop(t *testing.T) {
	var c clock.Clock
	set(t, &c, 3, 1, 1, 2, 3, 0, 2, 1, 3, 3, 5, 1)
	for _, who := range []int{4, -1, 63, 64, math.MinInt, math.MaxInt} {
		if n := c.Drop(who); n != 0 {
			t.Fatal(who, n)
		}
	}
	look(t, &c, 0, 1, 6)
	if n := c.Drop(1); n != 3 {
		t.Fatal(n)
	}
	look(t, &c, 0, 1, 3)
	if n := c.Drop(2); n != 1 {
		t.Fatal(n)
	}
	look(t, &c, 0, 3, 2)
	if n := c.Drop(1); n != 0 {
		t.Fatal(n)
	}
	set(t, &c, 3, 1)
	tick(t, &c, 5, 0, 3, 1)
	if n := c.Drop(0); n != 0 {
		t.Fatal("the woken wait yet", n)
	}
}

// Errors of Set: the edges, and that nothing is changed.
func TestSetErrors(t *testing.T) {
	var c clock.Clock
	tick(t, &c, 10)
	set(t, &c, 11, 0, api.MaxTime, 63, api.MaxTime-1, 62)
	for _, x := range []struct {
		at   int64
		who  int
		want api.Errno
	}{
		{10, 1, api.ErrRange}, {9, 1, api.ErrRange}, {0, 1, api.ErrRange}, {-1, 1, api.ErrRange},
		{api.MaxTime + 1, 1, api.ErrRange}, {math.MaxInt64, 1, api.ErrRange}, {math.MinInt64, 1, api.ErrRange},
		{11, -1, api.ErrArg}, {11, 64, api.ErrArg}, {api.MaxTime, 64, api.ErrArg}, {12, math.MinInt, api.ErrArg}, {12, math.MaxInt, api.ErrArg}, {12, 1 << 32, api.ErrArg},
		// Of several errors, the first that the chapter names.
		{10, -1, api.ErrRange}, {api.MaxTime + 1, 64, api.ErrRange},
	} {
		if e := c.Set(x.at, x.who); !errors.Is(e, x.want) {
			t.Error(x.at, x.who, e)
		}
		look(t, &c, 10, 11, 3)
	}
	tick(t, &c, api.MaxTime-10, 0, 62, 63)
	if e := c.Set(api.MaxTime, 1); !errors.Is(e, api.ErrRange) {
		t.Error(e)
	}
}

// Errors of Set: MaxActors timers are allowed, one more is not.
func TestSetMany(t *testing.T) {
	var c clock.Clock
	var want []int
	for who := range api.MaxActors {
		set(t, &c, 7, int64(who))
		want = append(want, who)
	}
	for _, x := range []struct {
		at   int64
		who  int
		want api.Errno
	}{{7, 0, api.ErrMany}, {1, 63, api.ErrMany}, {8, 5, api.ErrMany}, {7, 64, api.ErrArg}, {0, 64, api.ErrRange}, {0, 1, api.ErrRange}} {
		if e := c.Set(x.at, x.who); !errors.Is(e, x.want) {
			t.Error(x.at, x.who, e)
		}
		look(t, &c, 0, 7, api.MaxActors)
	}
	if n := c.Drop(5); n != 1 {
		t.Fatal(n)
	}
	set(t, &c, 6, 5)
	if e := c.Set(6, 5); !errors.Is(e, api.ErrMany) {
		t.Fatal(e)
	}
	tick(t, &c, 7, append([]int{5}, slices.Delete(want, 5, 6)...)...)
	for range api.MaxActors {
		set(t, &c, 8, 1)
	}
	if e := c.Set(8, 1); !errors.Is(e, api.ErrMany) {
		t.Fatal(e)
	}
}

// Errors of Tick: the edges, and that nothing is changed.
func TestTickErrors(t *testing.T) {
	var c clock.Clock
	tick(t, &c, 10)
	set(t, &c, 11, 4)
	for _, x := range []struct {
		d    int64
		want api.Errno
	}{
		{0, api.ErrArg}, {-1, api.ErrArg}, {-11, api.ErrArg}, {math.MinInt64, api.ErrArg},
		{api.MaxTime - 9, api.ErrRange}, {api.MaxTime, api.ErrRange}, {math.MaxInt64, api.ErrRange}, {math.MaxInt64 - 9, api.ErrRange},
	} {
		if l, e := c.Tick(x.d); len(l) != 0 || !errors.Is(e, x.want) {
			t.Error(x.d, l, e)
		}
		look(t, &c, 10, 11, 1)
	}
	tick(t, &c, api.MaxTime-10, 4)
	if l, e := c.Tick(1); len(l) != 0 || !errors.Is(e, api.ErrRange) {
		t.Error(l, e)
	}
	if l, e := c.Tick(0); len(l) != 0 || !errors.Is(e, api.ErrArg) {
		t.Error(l, e)
	}
	look(t, &c, api.MaxTime, 0, 0)
}

// Errors: nil is ErrNil, ahead of all others; else it is 0, false, nil.
func TestNil(t *testing.T) {
	var c *clock.Clock
	for _, v := range []int64{math.MinInt64, -1, 0, 1, math.MaxInt64} {
		if e := c.Set(v, int(v)); !errors.Is(e, api.ErrNil) {
			t.Fatal(v, e)
		}
		if l, e := c.Tick(v); len(l) != 0 || !errors.Is(e, api.ErrNil) {
			t.Fatal(v, l, e)
		}
		if c.Drop(int(v)) != 0 {
			t.Fatal(v)
		}
	}
	look(t, c, 0, 0, 0)
	if c.Clone() != nil {
		t.Fatal("a clone of nil")
	}
}

// P4.1: a clone is the same, and each of the two goes on for itself.
func TestClone(t *testing.T) {
	for n := range int64(20) {
		c := new(clock.Clock)
		tick(t, c, 1)
		var want []int
		for i := range n {
			set(t, c, 9, i)
			want = append(want, int(i))
		}
		d := c.Clone()
		if c == d || d.Now() != 1 || d.Waiting() != int(n) {
			t.Fatal(n, d.Now(), d.Waiting())
		}
		set(t, c, 9, 40)
		set(t, d, 9, 50, 5, 51)
		c.Drop(0)
		tick(t, d, 7, 51)
		look(t, d, 8, 9, int(n)+1)
		look(t, c, 1, 9, int(n)+1-int(min(n, 1)))
		tick(t, d, 1, append(slices.Clone(want), 50)...)
		tick(t, c, 8, append(slices.Clone(want[min(n, 1):]), 40)...)
	}
}

// R3: what a tick answers is the asker's own.
func TestOwn(t *testing.T) {
	var c clock.Clock
	set(t, &c, 1, 1, 1, 2, 2, 3, 3, 4)
	l, _ := c.Tick(1)
	set(t, &c, 2, 5, 2, 6)
	m := append(l, 60, 61, 62)
	m[0] = 63
	tick(t, &c, 1, 3, 5, 6)
	if !slices.Equal(m, []int{63, 2, 60, 61, 62}) {
		t.Fatal(m)
	}
	tick(t, &c, 1, 4)
}

// log is a clock that keeps its timers as they were set, and goes through each of the times.
type log struct {
	now int64
	at  []int64
	who []int
}

// forget lets those timers go that are chosen; who had set them.
func (g *log) forget(chosen func(i int) bool) []int {
	var gone, who []int
	var at []int64
	for i := range g.at {
		if chosen(i) {
			gone = append(gone, g.who[i])
		} else {
			at, who = append(at, g.at[i]), append(who, g.who[i])
		}
	}
	g.at, g.who = at, who
	return gone
}

func (g *log) tick(d int64) []int {
	var woken []int
	for range d {
		g.now++
		woken = append(woken, g.forget(func(i int) bool { return g.at[i] == g.now })...)
	}
	return woken
}

// act does one of eight things to a clock and to a log, and says whether both answered the same. Each who is another one.
func act(c *clock.Clock, g *log, what, who int) bool {
	switch what {
	case 0, 1, 2:
		at := c.Now() + 1 + int64(what)
		g.at, g.who = append(g.at, at), append(g.who, who)
		return c.Set(at, who) == nil
	case 3:
		at := c.Now() + 1
		g.at, g.who = append(g.at, at), append(g.who, 0)
		return c.Set(at, 0) == nil
	case 4, 5, 6:
		d := int64(what - 3)
		l, e := c.Tick(d)
		return slices.Equal(l, g.tick(d)) && e == nil
	}
	return c.Drop(0) == len(g.forget(func(i int) bool { return g.who[i] == 0 }))
}

// same says whether a clock and a log tell the same.
func same(c *clock.Clock, g *log) bool {
	at, ok := c.Next()
	if c.Now() != g.now || c.Waiting() != len(g.at) || ok != (len(g.at) > 0) {
		return false
	}
	return !ok && at == 0 || ok && at == slices.Min(g.at)
}

// P4.1, P4.2: whatever is done behind each other, who waits is woken once, when the time comes, none earlier.
func TestAll(t *testing.T) {
	const long = 6
	for run := range 1 << (3 * long) {
		c, g := new(clock.Clock), new(log)
		for i := range long {
			if !act(c, g, run>>(3*i)&7, i+1) || !same(c, g) {
				t.Fatalf("%o at %d", run, i)
			}
		}
		if l, e := c.Tick(9); !slices.Equal(l, g.tick(9)) || e != nil || c.Waiting() != 0 {
			t.Fatalf("%o: %v", run, l)
		}
	}
}
