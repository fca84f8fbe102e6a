package room_test

import (
	"math/rand/v2"
	"noria/actor"
	"noria/room"
	"slices"
	"testing"
)

// timer is when somebody is woken.
type timer struct {
	at  int64
	who int
}

// plain is what a room's actors, timers and lists are by the chapter's words.
type plain struct {
	now     int64
	state   []actor.State
	token   []bool
	wakes   []int
	timers  []timer
	waiting [][]int
}

// both are a room, and a plain one that goes along.
type both struct {
	*room.Room
	*plain
}

// begin is a room with so many actors, and rings.
func begin(t *testing.T, actors, rings int) both {
	t.Helper()
	r := room.New()
	for range actors {
		join(t, r)
	}
	for id := range rings {
		ring(t, r, 1, kinds[id%2])
	}
	return both{r, &plain{state: make([]actor.State, actors), token: make([]bool, actors), wakes: make([]int, actors), waiting: make([][]int, rings)}}
}

// drop lets somebody's timers go.
func (p *plain) drop(who int) {
	p.timers = slices.DeleteFunc(p.timers, func(t timer) bool { return t.who == who })
}

// wake wakes somebody, and says whether it was parked.
func (p *plain) wake(who int) bool {
	if p.state[who] == actor.Halted {
		return false
	}
	p.drop(who)
	p.wakes[who]++
	if p.state[who] == actor.Parked {
		p.state[who] = actor.Ready
		return true
	}
	p.token[who] = true
	return false
}

// park parks somebody, and says whether it is parked.
func (p *plain) park(who int, deadline int64) bool {
	switch {
	case p.state[who] == actor.Halted, deadline != 0 && p.now >= deadline:
		return false
	case p.token[who]:
		p.token[who] = false
		return false
	}
	p.state[who] = actor.Parked
	if deadline != 0 {
		p.drop(who)
		p.timers = append(p.timers, timer{deadline, who})
	}
	return true
}

// signal wakes all who wait, and says how many were parked.
func (p *plain) signal(ring int) int {
	n := 0
	for _, who := range p.waiting[ring] {
		if p.wake(who) {
			n++
		}
	}
	p.waiting[ring] = nil
	return n
}

// tick lets time go by, and says who is woken.
func (p *plain) tick(d int64) []int {
	p.now += d
	slices.SortStableFunc(p.timers, func(a, b timer) int { return int(a.at - b.at) })
	var l []int
	for _, t := range slices.Clone(p.timers) {
		if t.at <= p.now {
			l = append(l, t.who)
			p.wake(t.who)
		}
	}
	return l
}

// halt lets somebody do nothing any more.
func (p *plain) halt(who int) {
	p.drop(who)
	p.state[who], p.token[who] = actor.Halted, false
}

// enlist lets somebody be told of news.
func (p *plain) enlist(ring, who int) {
	if p.state[who] != actor.Halted && !slices.Contains(p.waiting[ring], who) {
		p.waiting[ring] = append(p.waiting[ring], who)
	}
}

// same says whether a room tells what the plain one does.
func (b both) same() bool {
	var l []int64
	slices.SortStableFunc(b.timers, func(x, y timer) int { return int(x.at - y.at) })
	for _, t := range b.timers {
		l = append(l, t.at, int64(t.who))
	}
	if b.Clock().Now() != b.now || b.Clock().Waiting() != len(b.timers) || !slices.Equal(timers(b.Room), l) {
		return false
	}
	for who, s := range b.state {
		if b.Actors().State(who) != s || b.Actors().Token(who) != b.token[who] || b.Actors().Wakes(who) != b.wakes[who] {
			return false
		}
	}
	for id, l := range b.waiting {
		if !slices.Equal(b.Waiting(id), l) {
			return false
		}
	}
	return true
}

// The acts of one actor, or of one ring.
const (
	enlist = iota
	parkPlainly
	parkTill
	parkLate
	wake
	halt
	signal
	tick
	acts
)

// act does one of these, by an actor, at a ring, with a number; it says whether it went as the plain one says. That an actor is
// halted is refused, which the plain one doesn't tell.
func (b both) act(what, ring, who int, n int64) bool {
	gone := b.state[who] == actor.Halted
	switch what {
	case enlist:
		e := b.Enlist(ring, who)
		b.enlist(ring, who)
		return (e != nil) == gone
	case parkPlainly, parkTill, parkLate:
		deadline := []int64{0, b.now + n, b.now}[what-parkPlainly]
		ok, e := b.Park(who, deadline)
		return ok == b.park(who, deadline) && (e != nil) == gone
	case wake:
		ok, e := b.Wake(who)
		return ok == b.wake(who) && (e != nil) == gone
	case halt:
		e := b.Halt(who)
		b.halt(who)
		return (e != nil) == gone
	case signal:
		was := b.Waiting(ring)
		ready := slices.DeleteFunc(slices.Clone(was), func(who int) bool { return b.Actors().State(who) != actor.Ready })
		k, e := b.Signal(ring)
		return k == b.signal(ring) && e == nil && b.awake(was, ready)
	default:
		l, e := b.Tick(n)
		return slices.Equal(l, b.tick(n)) && e == nil
	}
}

// awake says whether none of those who waited is parked, and those of them who were ready won't park the next time.
func (b both) awake(waited, ready []int) bool {
	parked := func(who int) bool { return b.Actors().State(who) == actor.Parked }
	may := func(who int) bool { return !b.Actors().Token(who) }
	return !slices.ContainsFunc(waited, parked) && !slices.ContainsFunc(ready, may)
}

// P14.3, P14.4, P14.5: whatever two actors do behind each other at one ring, a room tells what a plain one does.
func TestAll(t *testing.T) {
	// Those of a ring come once, the others of each actor.
	const each, long = 2 * signal, 5
	const all = each + 2
	runs := 1
	for range long {
		runs *= all
	}
	for run := range runs {
		b := begin(t, 2, 1)
		for i, left := 0, run; i < long; i, left = i+1, left/all {
			what, who := left%all, 0
			if what < each {
				what, who = what/2, what%2
			} else {
				what += signal - each
			}
			if !b.act(what, 0, who, 1) || !b.same() {
				t.Fatal(run, i, what, who, told(b.Room), *b.plain)
			}
		}
	}
}

// P14.3, P14.4, P14.5: long runs of many actors at some rings, that a generator picks, always the same.
func TestLong(t *testing.T) {
	for seed := range uint64(200) {
		r := rand.New(rand.NewPCG(seed, 14))
		b := begin(t, 12, 3)
		for i := range 600 {
			what := r.IntN(acts)
			if what == halt && r.IntN(20) > 0 {
				continue
			}
			if !b.act(what, r.IntN(3), r.IntN(12), 1+r.Int64N(9)) || !b.same() {
				t.Fatal(seed, i, what, told(b.Room), *b.plain)
			}
		}
	}
}

// P14.3: a list is as they came, each once, and another one the next time; it tells of who was halted since.
func TestWaiting(t *testing.T) {
	b := begin(t, 4, 2)
	for _, who := range []int{2, 0, 2, 3, 0} {
		if e := b.Enlist(1, who); e != nil {
			t.Fatal(who, e)
		}
	}
	l := b.Waiting(1)
	if !slices.Equal(l, []int{2, 0, 3}) || len(b.Waiting(0)) != 0 {
		t.Fatal(l, b.Waiting(0))
	}
	l[0] = 1
	if l := b.Waiting(1); !slices.Equal(l, []int{2, 0, 3}) {
		t.Fatal(l)
	}
	if k, e := b.Signal(0); k != 0 || e != nil || !slices.Equal(b.Waiting(1), []int{2, 0, 3}) {
		t.Fatal(k, e, b.Waiting(1))
	}
	b.Park(0, 0)
	b.Park(3, 9)
	b.Halt(3)
	if k, e := b.Signal(1); k != 1 || e != nil || len(b.Waiting(1)) != 0 || !b.Actors().Token(2) || b.Actors().Wakes(3) != 0 || b.Actors().State(0) != actor.Ready {
		t.Fatal(k, e, b.Waiting(1), told(b.Room))
	}
	if e := b.Enlist(1, 2); e != nil || !slices.Equal(b.Waiting(1), []int{2}) {
		t.Fatal(e, b.Waiting(1))
	}
}

// P14.4: who parks anew with another deadline has one timer; a deadline that has come leaves a token where it is.
func TestDeadlines(t *testing.T) {
	b := begin(t, 2, 0)
	b.Park(0, 9)
	if ok, e := b.Park(0, 4); !ok || e != nil || !slices.Equal(timers(b.Room), []int64{4, 0}) {
		t.Fatal(ok, e, timers(b.Room))
	}
	b.Park(1, 4)
	if l, e := b.Tick(4); !slices.Equal(l, []int{0, 1}) || e != nil || b.Clock().Waiting() != 0 {
		t.Fatal(l, e)
	}
	b.Wake(0)
	for _, deadline := range []int64{1, 3, 4} {
		if ok, e := b.Park(0, deadline); ok || e != nil || !b.Actors().Token(0) {
			t.Fatal(deadline, ok, e)
		}
	}
	if ok, e := b.Park(0, 5); ok || e != nil || b.Actors().Token(0) || b.Clock().Waiting() != 0 {
		t.Fatal(ok, e, timers(b.Room))
	}
	if ok, e := b.Park(0, 5); !ok || e != nil || b.Clock().Waiting() != 1 {
		t.Fatal(ok, e, timers(b.Room))
	}
}

// P14.5: news that comes ahead of Park isn't lost, whichever way it is told.
func TestNews(t *testing.T) {
	for _, deadline := range []int64{0, 3} {
		b := begin(t, 1, 1)
		b.Enlist(0, 0)
		if k, e := b.Signal(0); k != 0 || e != nil {
			t.Fatal(k, e)
		}
		if ok, e := b.Park(0, deadline); ok || e != nil || b.Actors().State(0) != actor.Ready {
			t.Fatal(deadline, ok, e)
		}
		if ok, e := b.Park(0, deadline); !ok || e != nil || b.Actors().State(0) != actor.Parked {
			t.Fatal(deadline, ok, e)
		}
	}
}
