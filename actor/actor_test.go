package actor_test

import (
	"errors"
	"math"
	"noria/actor"
	"noria/api"
	"slices"
	"testing"
)

// nobody are numbers that no actor of a table of three has.
var nobody = []int{3, 4, -1, -3, api.MaxActors - 1, api.MaxActors, math.MinInt, math.MaxInt, 1 << 32, 1<<32 + 1}

// table is one of so many actors.
func table(t *testing.T, n int) *actor.Table {
	t.Helper()
	a := actor.New()
	for i := range n {
		if id, e := a.Add(); id != i || e != nil {
			t.Fatal(i, id, e)
		}
	}
	return a
}

// look wants an actor to be in a state, to have a token or none, and to have been woken so often.
func look(t *testing.T, a *actor.Table, id int, s actor.State, token bool, wakes int) {
	t.Helper()
	if a.State(id) != s || a.Token(id) != token || a.Wakes(id) != wakes {
		t.Fatal(id, a.State(id), a.Token(id), a.Wakes(id))
	}
}

// park wants Park to tell this.
func park(t *testing.T, a *actor.Table, id int, want bool) {
	t.Helper()
	if ok, e := a.Park(id); ok != want || e != nil {
		t.Fatal(id, ok, e)
	}
}

// wake wants Wake to tell this.
func wake(t *testing.T, a *actor.Table, id int, want bool) {
	t.Helper()
	if ok, e := a.Wake(id); ok != want || e != nil {
		t.Fatal(id, ok, e)
	}
}

// done wants a call to have no error.
func done(t *testing.T, e error) {
	t.Helper()
	if e != nil {
		t.Fatal(e)
	}
}

// refused wants all that changes an actor to have one error, and nothing else.
func refused(t *testing.T, a *actor.Table, id int, want error) {
	t.Helper()
	parked, e := a.Park(id)
	was, f := a.Wake(id)
	for _, e := range []error{e, f, a.Clear(id), a.Halt(id)} {
		if !errors.Is(e, want) {
			t.Fatal(id, e)
		}
	}
	if parked || was {
		t.Fatal(id, parked, was)
	}
}

// The chapter's example.
func TestExample(t *testing.T) {
	a := table(t, 1)
	wake(t, a, 0, false)
	park(t, a, 0, false)
	park(t, a, 0, true)
}

// The states have their numbers.
func TestStates(t *testing.T) {
	if actor.Ready != 0 || actor.Parked != 1 || actor.Halted != 2 {
		t.Fatal(actor.Ready, actor.Parked, actor.Halted)
	}
}

// P5.1: New is without an actor, and each one is another.
func TestNew(t *testing.T) {
	a, b := actor.New(), actor.New()
	if a == nil || a == b || a.Len() != 0 || len(a.Runnable()) != 0 {
		t.Fatal(a, b)
	}
	if id, ok := a.Legal(0); id != 0 || ok {
		t.Fatal(id, ok)
	}
	a.Add()
	if b.Len() != 0 {
		t.Fatal("two tables share their actors")
	}
}

// P5.1, P5.2: Add is how many there were; a new one is Ready, and wasn't woken.
func TestAdd(t *testing.T) {
	a := actor.New()
	for i := range api.MaxActors {
		look(t, a, i, actor.Halted, false, 0)
		if id, e := a.Add(); id != i || e != nil || a.Len() != i+1 {
			t.Fatal(i, id, e, a.Len())
		}
		look(t, a, i, actor.Ready, false, 0)
		wake(t, a, i, false)
	}
}

// Errors: MaxActors are allowed, one more is not; those that are Halted count.
func TestAddMany(t *testing.T) {
	a := table(t, api.MaxActors)
	for id := range api.MaxActors {
		if id%2 == 0 {
			done(t, a.Halt(id))
		}
	}
	was := a.Runnable()
	for range 3 {
		if id, e := a.Add(); id != 0 || !errors.Is(e, api.ErrMany) {
			t.Fatal(id, e)
		}
		if a.Len() != api.MaxActors || !slices.Equal(a.Runnable(), was) {
			t.Fatal(a.Len(), a.Runnable())
		}
		look(t, a, api.MaxActors, actor.Halted, false, 0)
	}
	look(t, a, 0, actor.Halted, false, 0)
	look(t, a, api.MaxActors-1, actor.Ready, false, 0)
}

// P5.1: Park without a token parks, again and again; no other actor is touched.
func TestPark(t *testing.T) {
	a := table(t, 3)
	for range 3 {
		park(t, a, 1, true)
		look(t, a, 0, actor.Ready, false, 0)
		look(t, a, 1, actor.Parked, false, 0)
		look(t, a, 2, actor.Ready, false, 0)
	}
}

// P5.1: one that is Parked is Ready by Wake, and has no token by it.
func TestWakeParked(t *testing.T) {
	a := table(t, 3)
	for n := range 3 {
		park(t, a, 1, true)
		wake(t, a, 1, true)
		look(t, a, 0, actor.Ready, false, 0)
		look(t, a, 1, actor.Ready, false, n+1)
		look(t, a, 2, actor.Ready, false, 0)
	}
}

// P5.1: one that is Ready has a token by Wake, one alone however often; Park takes it.
func TestWakeReady(t *testing.T) {
	a := table(t, 3)
	for n := range 5 {
		wake(t, a, 1, false)
		look(t, a, 0, actor.Ready, false, 0)
		look(t, a, 1, actor.Ready, true, n+1)
		look(t, a, 2, actor.Ready, false, 0)
	}
	park(t, a, 1, false)
	look(t, a, 1, actor.Ready, false, 5)
	park(t, a, 1, true)
	look(t, a, 1, actor.Parked, false, 5)
}

// P5.1: woken twice, one that is Parked is Ready, and has a token.
func TestWakeTwice(t *testing.T) {
	a := table(t, 1)
	park(t, a, 0, true)
	wake(t, a, 0, true)
	wake(t, a, 0, false)
	look(t, a, 0, actor.Ready, true, 2)
	park(t, a, 0, false)
	park(t, a, 0, true)
}

// P5.1: Clear takes the token, and nothing else.
func TestClear(t *testing.T) {
	a := table(t, 2)
	wake(t, a, 0, false)
	wake(t, a, 1, false)
	done(t, a.Clear(0))
	look(t, a, 0, actor.Ready, false, 1)
	look(t, a, 1, actor.Ready, true, 1)
	done(t, a.Clear(0))
	park(t, a, 0, true)
	done(t, a.Clear(0))
	look(t, a, 0, actor.Parked, false, 1)
	wake(t, a, 0, true)
	look(t, a, 0, actor.Ready, false, 2)
}

// P5.1: Halt halts one that is Ready, that has a token, that is Parked; what it was woken is told yet.
func TestHalt(t *testing.T) {
	a := table(t, 4)
	wake(t, a, 1, false)
	wake(t, a, 3, false)
	park(t, a, 2, true)
	for id := range 3 {
		done(t, a.Halt(id))
	}
	look(t, a, 0, actor.Halted, false, 0)
	look(t, a, 1, actor.Halted, false, 1)
	look(t, a, 2, actor.Halted, false, 0)
	look(t, a, 3, actor.Ready, true, 1)
	if l := a.Runnable(); !slices.Equal(l, []int{3}) || a.Len() != 4 {
		t.Fatal(l, a.Len())
	}
	if id, e := a.Add(); id != 4 || e != nil {
		t.Fatal(id, e)
	}
}

// Errors: who is Halted stays so, and isn't woken any more.
func TestHalted(t *testing.T) {
	a := table(t, 3)
	wake(t, a, 1, false)
	wake(t, a, 1, false)
	done(t, a.Halt(1))
	for range 2 {
		refused(t, a, 1, api.ErrHalted)
		look(t, a, 0, actor.Ready, false, 0)
		look(t, a, 1, actor.Halted, false, 2)
		look(t, a, 2, actor.Ready, false, 0)
	}
}

// Errors: of actors that there are none of, nothing is answered or changed.
func TestNone(t *testing.T) {
	a := table(t, 3)
	park(t, a, 0, true)
	wake(t, a, 1, false)
	done(t, a.Halt(2))
	for _, id := range nobody {
		refused(t, a, id, api.ErrNone)
		look(t, a, id, actor.Halted, false, 0)
		look(t, a, 0, actor.Parked, false, 0)
		look(t, a, 1, actor.Ready, true, 1)
		look(t, a, 2, actor.Halted, false, 0)
		if a.Len() != 3 {
			t.Fatal(id, a.Len())
		}
	}
	refused(t, actor.New(), 0, api.ErrNone)
}

// Errors: nil is ErrNil, ahead of all others; else it is Halted, 0, none, false.
func TestNil(t *testing.T) {
	var a *actor.Table
	if id, e := a.Add(); id != 0 || !errors.Is(e, api.ErrNil) {
		t.Fatal(id, e)
	}
	for _, id := range append([]int{0, 1}, nobody...) {
		refused(t, a, id, api.ErrNil)
		look(t, a, id, actor.Halted, false, 0)
		if who, ok := a.Legal(id); who != 0 || ok {
			t.Fatal(id, who, ok)
		}
	}
	if a.Len() != 0 || len(a.Runnable()) != 0 {
		t.Fatal("nil has actors")
	}
}

// P5.2: Runnable are those that are Ready, rising, however they came to be; a token doesn't matter.
func TestRunnable(t *testing.T) {
	a := table(t, 6)
	for _, x := range []struct {
		what func(int) error
		id   int
		want []int
	}{
		{a.Clear, 0, []int{0, 1, 2, 3, 4, 5}},
		{func(id int) error { _, e := a.Wake(id); return e }, 4, []int{0, 1, 2, 3, 4, 5}},
		{func(id int) error { _, e := a.Park(id); return e }, 0, []int{1, 2, 3, 4, 5}},
		{func(id int) error { _, e := a.Park(id); return e }, 4, []int{1, 2, 3, 4, 5}},
		{func(id int) error { _, e := a.Park(id); return e }, 4, []int{1, 2, 3, 5}},
		{a.Halt, 3, []int{1, 2, 5}},
		{func(id int) error { _, e := a.Park(id); return e }, 1, []int{2, 5}},
		{func(id int) error { _, e := a.Wake(id); return e }, 4, []int{2, 4, 5}},
		{func(id int) error { _, e := a.Wake(id); return e }, 0, []int{0, 2, 4, 5}},
		{a.Halt, 1, []int{0, 2, 4, 5}},
		{a.Halt, 5, []int{0, 2, 4}},
		{a.Halt, 0, []int{2, 4}},
		{a.Halt, 4, []int{2}},
		{func(id int) error { _, e := a.Park(id); return e }, 2, nil},
	} {
		done(t, x.what(x.id))
		if l := a.Runnable(); !slices.Equal(l, x.want) {
			t.Fatal(x.id, l, x.want)
		}
	}
}

// R3: what Runnable answers is the asker's own.
func TestOwn(t *testing.T) {
	a := table(t, 4)
	park(t, a, 3, true)
	l := a.Runnable()
	m := append(l, 9)
	m[0] = 8
	wake(t, a, 3, true)
	if n := a.Runnable(); !slices.Equal(n, []int{0, 1, 2, 3}) || !slices.Equal(m, []int{8, 1, 2, 9}) {
		t.Fatal(n, m)
	}
}

// P5.2: Legal goes round among those that are Ready, for numbers below 0 too.
func TestLegal(t *testing.T) {
	a := table(t, 7)
	for _, id := range []int{0, 3, 6} {
		park(t, a, id, true)
	}
	done(t, a.Halt(1))
	ready := []int{2, 4, 5}
	// -3 x 100 is a place of the first.
	for pick, place := -300, 0; pick < 300; pick, place = pick+1, (place+1)%3 {
		if id, ok := a.Legal(pick); id != ready[place] || !ok {
			t.Fatal(pick, id, ok)
		}
	}
	// The greatest number is 1 more than three times something, the least one 1 more than that below 0.
	for pick, want := range map[int]int{math.MaxInt: 4, math.MaxInt - 1: 2, math.MinInt: 4, math.MinInt + 1: 5, math.MinInt + 2: 2} {
		if id, ok := a.Legal(pick); id != want || !ok {
			t.Fatal(pick, id, ok)
		}
	}
	for i, id := range ready {
		park(t, a, id, true)
		if who, ok := a.Legal(math.MinInt); ok != (i < 2) || !ok && who != 0 {
			t.Fatal(i, who, ok)
		}
	}
	for _, pick := range []int{0, 1, -1, math.MinInt, math.MaxInt} {
		if id, ok := a.Legal(pick); id != 0 || ok {
			t.Fatal(pick, id, ok)
		}
	}
}

// P5.2: of MaxActors each is picked by its own number; a pick changes nothing.
func TestLegalMost(t *testing.T) {
	a := table(t, api.MaxActors)
	for pick := range 3 * api.MaxActors {
		if id, ok := a.Legal(pick); id != pick%api.MaxActors || !ok {
			t.Fatal(pick, id, ok)
		}
		if id, ok := a.Legal(-1 - pick); id != api.MaxActors-1-pick%api.MaxActors || !ok {
			t.Fatal(pick, id, ok)
		}
	}
	for id := range api.MaxActors {
		look(t, a, id, actor.Ready, false, 0)
	}
}

// P5.3: whatever an actor did till its last Park, woken behind it, while it is ready, it doesn't park the next time.
func TestNoWakeIsLost(t *testing.T) {
	for ahead := range 1 << 8 {
		for wakes := 1; wakes < 4; wakes++ {
			a := table(t, 2)
			for i := range 8 {
				if ahead>>i&1 == 0 {
					a.Park(0)
				} else {
					a.Wake(0)
				}
			}
			a.Park(0)
			asleep := a.State(0) == actor.Parked
			for i := range wakes {
				wake(t, a, 0, asleep && i == 0)
				a.Park(1)
				a.Wake(1)
			}
			if a.State(0) != actor.Ready {
				t.Fatal(ahead, wakes)
			}
			// The wake that ended a sleep is used up by that.
			park(t, a, 0, asleep && wakes == 1)
		}
	}
}

// count is an actor as one number: -1 it sleeps, 0 it is awake, 1 it was woken ahead of its next sleep.
type count struct {
	n, wakes int
	gone     bool
}

// state is what a count's actor does.
func (c *count) state() actor.State {
	if c.gone {
		return actor.Halted
	}
	if c.n < 0 {
		return actor.Parked
	}
	return actor.Ready
}

// act does one of nine things to a table and to counts, and says whether both answered the same.
func act(a *actor.Table, l []*count, what int) ([]*count, bool) {
	if what == 8 {
		id, e := a.Add()
		return append(l, new(count)), id == len(l) && e == nil
	}
	id := what % 2
	c, wrong := &count{gone: true}, error(api.ErrNone)
	if id < len(l) {
		c, wrong = l[id], api.ErrHalted
	}
	if !c.gone {
		wrong = nil
	}
	var got, want bool
	var e error
	switch what / 2 {
	case 0:
		got, e = a.Park(id)
		c.n = max(c.n-1, -1)
		want = wrong == nil && c.n < 0
	case 1:
		got, e = a.Wake(id)
		want = wrong == nil && c.n < 0
		c.n = min(c.n+1, 1)
		if wrong == nil {
			c.wakes++
		}
	case 2:
		e = a.Clear(id)
		c.n = min(c.n, 0)
	case 3:
		e = a.Halt(id)
		c.gone = true
	}
	return l, got == want && (e == nil) == (wrong == nil) && errors.Is(e, wrong)
}

// same says whether a table and counts tell the same.
func same(a *actor.Table, l []*count) bool {
	var ready []int
	for id, c := range l {
		if a.State(id) != c.state() || a.Token(id) != (!c.gone && c.n > 0) || a.Wakes(id) != c.wakes {
			return false
		}
		if c.state() == actor.Ready {
			ready = append(ready, id)
		}
	}
	if a.Len() != len(l) || !slices.Equal(a.Runnable(), ready) {
		return false
	}
	for i, want := range ready {
		if id, ok := a.Legal(i - len(ready)); id != want || !ok {
			return false
		}
	}
	_, ok := a.Legal(1)
	return ok == (len(ready) > 0)
}

// P5.1, P5.2, P5.3: whatever is done behind each other, actors are what plain counts would be.
func TestAll(t *testing.T) {
	const long, add = 6, 8
	runs := 1
	for range long {
		runs *= 9
	}
	for run := range runs {
		a, l := actor.New(), []*count(nil)
		var ok bool
		if l, ok = act(a, l, add); !ok {
			t.Fatal("the first one")
		}
		for i, rest := 0, run; i < long; i, rest = i+1, rest/9 {
			if l, ok = act(a, l, rest%9); !ok || !same(a, l) {
				t.Fatal(run, i)
			}
		}
	}
}
