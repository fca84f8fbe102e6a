package model_test

import (
	"math/rand/v2"
	"noria/actor"
	"noria/api"
	"noria/exchange"
	"noria/model"
	"noria/runner"
	"noria/trace"
	"noria/wait"
	"slices"
	"testing"
)

// The ways of waiting.
var ways = []wait.Way{{Kind: wait.Spin}, {Kind: wait.Yield, Tries: 2}, {Kind: wait.Block}, {Kind: wait.Timed, Time: 4}}

// whole is a runner, and a model that is told of all that is made and sent, and of all that is seen. Its rings are never torn: of each ring of many
// one who is never told to stop holds it back all along, or one alone sends.
type whole struct {
	*runner.Runner
	m    *model.Model
	g    *rand.Rand
	seed uint64
	stay map[int]bool
	// How many notes the model was told of, and how many calls each was given.
	told  int
	calls map[int]int
	teams [][]int
	key   int64
}

// opened is such a runner with some rings, each with one who sends, and most with one who handles.
func opened(t *testing.T, seed uint64) *whole {
	t.Helper()
	w := &whole{Runner: runner.New(), m: model.New(), g: rand.New(rand.NewPCG(seed, 9)), seed: seed, stay: map[int]bool{}, calls: map[int]int{}}
	for id := range 1 + w.g.IntN(3) {
		w.must(t, runner.Op{Do: runner.MakeRing, N: 1 << w.g.IntN(4), Ring: w.g.IntN(2)})
		if w.g.IntN(6) > 0 {
			w.stay[w.Exchange().Len()] = true
			w.must(t, runner.Op{Do: runner.MakeConsumer, Ring: id, Way: ways[w.g.IntN(4)], N: 1 + w.g.IntN(4)})
		}
		w.must(t, runner.Op{Do: runner.MakeProducer, Ring: id, Way: ways[w.g.IntN(4)]})
	}
	return w
}

// must does a line that has no error.
func (w *whole) must(t *testing.T, o runner.Op) {
	t.Helper()
	if e := w.line(t, o); e != nil {
		t.Fatal(w.seed, o, e)
	}
}

// line does a line, and tells the model of it.
func (w *whole) line(t *testing.T, o runner.Op) error {
	t.Helper()
	first := w.Exchange().Len()
	if o.Do != runner.Pick {
		w.tell(t)
	}
	e := w.Do(o)
	if e != nil {
		return e
	}
	var made []int
	for who := first; who < w.Exchange().Len(); who++ {
		made = append(made, who)
	}
	if e := w.happens(o, made); e != nil {
		t.Fatal(w.seed, o, e)
	}
	return nil
}

// happens tells the model what a line made, or sent.
func (w *whole) happens(o runner.Op, made []int) error {
	x := w.Exchange()
	switch o.Do {
	case runner.MakeRing:
		_, e := w.m.Log(int64(o.N), o.Ring == 1)
		return e
	case runner.MakeProducer:
		return w.m.Writer(made[0], o.Ring)
	case runner.MakeConsumer, runner.MakePoller:
		return w.m.Reader(made[0], o.Ring, x.Start(made[0], o.Ring), o.After...)
	case runner.MakePool:
		w.teams = append(w.teams, made)
		return w.m.Pool(o.Ring, x.Start(made[0], o.Ring), made, o.After...)
	case runner.MakeChooser:
		for _, ring := range o.After {
			if e := w.m.Reader(made[0], ring, x.Start(made[0], ring)); e != nil {
				return e
			}
		}
	case runner.Send, runner.Offer:
		w.calls[o.Who]++
		return w.m.Send(o.Who, o.L...)
	case runner.Poll, runner.Receive, runner.Select:
		w.calls[o.Who]++
	}
	return nil
}

// tell tells the model what was seen (W9).
func (w *whole) tell(t *testing.T) {
	t.Helper()
	l := w.Notes()
	for _, n := range l[w.told:] {
		if e := w.m.Take(n); e != nil {
			t.Fatal(w.seed, n, e)
		}
	}
	w.told = len(l)
}

// held says whether one who is never told to stop holds a ring back.
func (w *whole) held(ring int) bool {
	for who := range w.stay {
		if w.Exchange().Rings(who)[0] == ring {
			return true
		}
	}
	return false
}

// more is a line by which there is one more.
func (w *whole) more() runner.Op {
	x := w.Exchange()
	id, way := w.g.IntN(x.Room().Rings()), ways[w.g.IntN(4)]
	var ahead []int
	for range w.g.IntN(3) {
		ahead = append(ahead, w.g.IntN(x.Len()))
	}
	switch what := w.g.IntN(6); {
	case what == 0 && w.held(id):
		return runner.Op{Do: runner.MakeProducer, Ring: id, Way: way}
	case what == 1:
		return runner.Op{Do: runner.MakePoller, Ring: id, Way: way, After: ahead}
	case what == 2:
		return runner.Op{Do: runner.MakeChooser, After: w.g.Perm(x.Room().Rings())[:1+w.g.IntN(x.Room().Rings())]}
	case what == 3:
		return runner.Op{Do: runner.MakePool, Ring: id, Way: way, N: 1 + w.g.IntN(3), After: ahead}
	}
	return runner.Op{Do: runner.MakeConsumer, Ring: id, Way: way, N: 1 + w.g.IntN(5), After: ahead}
}

// ask is a line by which one has a call more, if it takes calls.
func (w *whole) ask(who int) runner.Op {
	switch k, _ := w.Exchange().Kind(who); k {
	case exchange.Producer:
		var l []api.Event
		for range 1 + w.g.IntN(4) {
			w.key++
			l = append(l, api.Event{Key: w.key, Val: w.g.Int64N(3)})
		}
		return runner.Op{Do: []runner.Deed{runner.Send, runner.Send, runner.Offer}[w.g.IntN(3)], Who: who, L: l}
	case exchange.Poller:
		return runner.Op{Do: []runner.Deed{runner.Poll, runner.Receive}[w.g.IntN(2)], Who: who, N: 1 + w.g.IntN(4)}
	case exchange.Chooser:
		return runner.Op{Do: runner.Select, Who: who, N: w.g.IntN(9) - 4}
	}
	return runner.Op{Do: runner.Pick, N: w.g.IntN(99)}
}

// any is one of many lines, that may be refused.
func (w *whole) any() runner.Op {
	who := w.g.IntN(w.Exchange().Len())
	switch what := w.g.IntN(36); {
	case what < 7:
		return w.ask(who)
	case what == 7 && w.Exchange().Len() < 16:
		return w.more()
	case what == 8:
		return runner.Op{Do: runner.Tick, At: 1 + w.g.Int64N(3)}
	case what == 9 && w.seed%3 > 0 && !w.stay[who]:
		return runner.Op{Do: []runner.Deed{runner.Alert, runner.Drain, runner.Clear, runner.Remove}[w.g.IntN(4)], Who: who}
	}
	return runner.Op{Do: runner.Pick, N: w.g.IntN(2000) - 1000}
}

// release lets nobody hold up any more, as far as that may be.
func (w *whole) release(t *testing.T) {
	t.Helper()
	for range 40 {
		for who := range w.Exchange().Len() {
			k, _ := w.Exchange().Kind(who)
			if k == exchange.Poller || k == exchange.Chooser || w.Exchange().State(who) == actor.Halted && k == exchange.Consumer {
				w.line(t, runner.Op{Do: runner.Remove, Who: who})
			} else {
				w.line(t, runner.Op{Do: runner.Clear, Who: who})
			}
		}
		if w.Free() {
			return
		}
		for range 10 {
			w.Round()
		}
		w.tell(t)
	}
}

// queued wants each who handles by itself to have handled the events of its rings one behind the other, as they are in the logs, and to be done with
// what it handled (W1, W7, W8).
func (w *whole) queued(t *testing.T) {
	t.Helper()
	x, l := w.Exchange(), w.Notes()
	a := x.Room().Arena().Clone()
	for who := range x.Len() {
		k, _ := x.Kind(who)
		if k == exchange.Producer || k == exchange.Worker {
			continue
		}
		for _, ring := range x.Rings(who) {
			start := x.Start(who, ring)
			events := trace.Events(l, who, ring)
			if !trace.Rising(l, who, ring, start) {
				t.Fatal(w.seed, who, ring, "doesn't rise")
			}
			for i, e := range events {
				if in, ok := w.m.Event(ring, start+int64(i)); in != e || !ok {
					t.Fatal(w.seed, who, ring, i, e, in)
				}
			}
			has, _ := a.Load(x.Cell(who, ring))
			seen := max(trace.Cursor(l, who, ring), start-1)
			if c, ok := w.m.Cursor(who, ring); c != has || seen != has || !ok {
				t.Fatal(w.seed, who, ring, has, seen, c, ok)
			}
			if x.State(who) == actor.Halted && has != start+int64(len(events))-1 {
				t.Fatal(w.seed, who, ring, has, "isn't what it handled")
			}
		}
	}
}

// pools wants nothing to be handled twice by a pool's workers, and nothing up to what all are done with to be left out (W3).
func (w *whole) pools(t *testing.T) {
	t.Helper()
	x, l := w.Exchange(), w.Notes()
	a := x.Room().Arena().Clone()
	for _, team := range w.teams {
		ring, start := x.Rings(team[0])[0], x.Start(team[0], x.Rings(team[0])[0])
		if !trace.Once(l, ring, team...) {
			t.Fatal(w.seed, team, "handled twice")
		}
		done, handled := int64(1<<62), map[int64]int{}
		for _, who := range team {
			has, _ := a.Load(x.Cell(who, ring))
			done = min(done, has)
			for _, n := range trace.At(trace.Of(l, who), ring, api.Handled) {
				handled[n.Seq]++
			}
		}
		for i := start; i <= done && done < 1<<62; i++ {
			if handled[i] != 1 {
				t.Fatal(w.seed, team, i, handled[i])
			}
		}
	}
}

// ordered wants who is behind another one never to have handled more than that (W2).
func (w *whole) ordered(t *testing.T) {
	t.Helper()
	x, l := w.Exchange(), w.Notes()
	for who := range x.Len() {
		for ahead := range x.Len() {
			k, _ := x.Kind(who)
			j, _ := x.Kind(ahead)
			if k == exchange.Worker || j == exchange.Worker || !x.Behind(who, ahead) {
				continue
			}
			// Who is ahead may have begun above the start of who is behind it, or below.
			ring := x.Rings(who)[0]
			if by := int64(trace.Behind(l, ring, ahead, who)); by > max(0, x.Start(ahead, ring)-x.Start(who, ring)) {
				t.Fatal(w.seed, who, ahead, by)
			}
		}
	}
}

// shared wants no index to be published twice, and, when all calls have ended, none up to the cursor to be left out (W4).
func (w *whole) shared(t *testing.T, over bool) {
	t.Helper()
	x, l := w.Exchange(), w.Notes()
	a := x.Room().Arena().Clone()
	for ring := range x.Room().Rings() {
		sum, count := int64(0), int64(0)
		for _, n := range trace.At(l, ring, api.Shown) {
			sum += n.Seq - n.Lo + 1
		}
		for _, s := range trace.Shown(l, ring) {
			count += s.Hi - s.Lo + 1
		}
		if sum != count || trace.Length(l, ring, 0) != w.m.Length(ring) {
			t.Fatal(w.seed, ring, sum, count, w.m.Length(ring))
		}
		claimed, _ := a.Load(x.Room().Cursor(ring))
		if over && (count != claimed+1 || w.m.Length(ring) != claimed+1) {
			t.Fatal(w.seed, ring, claimed, count)
		}
	}
}

// returned wants as many calls to have ended as haven't any more to (W6).
func (w *whole) returned(t *testing.T) {
	t.Helper()
	x, l := w.Exchange(), w.Notes()
	for who := range x.Len() {
		if got := len(trace.Calls(l, who)); got+x.Pending(who) != w.calls[who] {
			t.Fatal(w.seed, who, got, x.Pending(who), w.calls[who])
		}
	}
}

// W1 to W4, W6 to W9: all that is seen may happen to logs and cursors, and is in order, whoever comes, asks, is told to stop, and leaves, and whoever
// steps when; once nobody holds up all calls return, within the bound.
func TestWhole(t *testing.T) {
	rests, notes := 0, 0
	counts := [8]int{}
	for seed := range uint64(500) {
		w := opened(t, seed)
		for i := range 60 + w.g.IntN(900) {
			w.line(t, w.any())
			if i%16 == 0 {
				w.tell(t)
			}
		}
		w.tell(t)
		w.checked(t, false)
		w.release(t)
		if w.Free() {
			_, ok := w.Settle(min(w.Bound(), 1<<30))
			if !ok {
				t.Fatal(seed, "doesn't rest")
			}
			w.tell(t)
			w.checked(t, true)
			rests++
		}
		for d, n := range trace.Counts(w.Notes()) {
			counts[d] += n
		}
		notes += w.told
	}
	if rests < 300 || notes < 80000 || counts[0] > 0 || slices.Min(counts[1:]) < 100 {
		t.Fatal(rests, notes, counts)
	}
}

// checked wants all that was seen to be well; over says that all is at rest.
func (w *whole) checked(t *testing.T, over bool) {
	t.Helper()
	w.queued(t)
	w.pools(t)
	w.ordered(t)
	w.shared(t, over)
	w.returned(t)
}

// W1: which events one handles hangs neither on how it waits, nor on how many it handles at once, nor on how many slots there are, nor on who claims,
// nor on who steps when, where one sends.
func TestSameEvents(t *testing.T) {
	var want []api.Event
	for seed := range uint64(300) {
		w := &whole{Runner: runner.New(), m: model.New(), g: rand.New(rand.NewPCG(seed, 1)), seed: seed, calls: map[int]int{}}
		w.must(t, runner.Op{Do: runner.MakeRing, N: 4 << w.g.IntN(4), Ring: w.g.IntN(2)})
		// Who sends never gives up: its way isn't Timed.
		w.must(t, runner.Op{Do: runner.MakeProducer, Way: ways[w.g.IntN(3)]})
		var ahead []int
		for who := 1; who < 4; who++ {
			w.must(t, runner.Op{Do: runner.MakeConsumer, Way: ways[w.g.IntN(4)], N: 1 + w.g.IntN(64), After: ahead})
			if w.g.IntN(2) == 0 {
				ahead = append(ahead, who)
			}
		}
		key := int64(0)
		for n := range 40 {
			var l []api.Event
			for range 1 + n%4 {
				key++
				l = append(l, api.Event{Key: key, Val: -key})
			}
			w.must(t, runner.Op{Do: runner.Send, L: l})
			for range w.g.IntN(40) {
				w.Pick(w.g.IntN(99))
			}
			if w.g.IntN(20) == 0 {
				w.must(t, runner.Op{Do: runner.Tick, At: 1})
			}
		}
		if _, ok := w.Settle(w.Bound()); !ok {
			t.Fatal(seed, "doesn't rest")
		}
		w.tell(t)
		for who := 1; who < 4; who++ {
			got := trace.Events(w.Notes(), who, 0)
			if want == nil {
				want = got
			}
			if !slices.Equal(got, want) || len(got) != int(key) {
				t.Fatal(seed, who, len(got), len(want))
			}
		}
	}
}

// W5: an offer is refused only if at one of its own steps, since the call ahead of it ended, one who holds the ring back held back the last index that
// it would have.
func TestRefused(t *testing.T) {
	full, well := 0, 0
	for seed := range uint64(200) {
		w := &whole{Runner: runner.New(), m: model.New(), g: rand.New(rand.NewPCG(seed, 5)), seed: seed, calls: map[int]int{}}
		kind := w.g.IntN(2)
		w.must(t, runner.Op{Do: runner.MakeRing, N: 4 << w.g.IntN(2), Ring: kind})
		w.must(t, runner.Op{Do: runner.MakeConsumer, Way: ways[w.g.IntN(4)], N: 1 + w.g.IntN(3)})
		for range 1 + 2*kind {
			w.must(t, runner.Op{Do: runner.MakeProducer, Way: ways[w.g.IntN(4)]})
		}
		w.must(t, runner.Op{Do: runner.MakeConsumer, Way: ways[w.g.IntN(4)], N: 1, After: []int{0}})
		offers, held := map[int][]int{}, map[int]bool{}
		for range 400 {
			if who := 1 + w.g.IntN(1+2*kind); w.g.IntN(8) == 0 && len(offers[who]) < 60 {
				n := 1 + w.g.IntN(4)
				w.must(t, runner.Op{Do: runner.Offer, Who: who, L: make([]api.Event, n)})
				offers[who] = append(offers[who], n)
			}
			was, _ := w.Exchange().Room().Arena().Load(w.Exchange().Room().Cursor(0))
			who, ok := w.Pick(w.g.IntN(99))
			if !ok {
				continue
			}
			if l := offers[who]; len(l) > 0 && w.m.Held(0, was+int64(l[0])) {
				held[who] = true
			}
			first := w.told
			w.tell(t)
			for _, n := range w.Notes()[first:] {
				if len(offers[n.Who]) == 0 || n.Deed != api.Returned {
					continue
				}
				if n.Code == api.ErrFull {
					full++
				} else {
					well++
				}
				if n.Code == api.ErrFull && !held[n.Who] {
					t.Fatal(seed, n, "there was room")
				}
				offers[n.Who], held[n.Who] = offers[n.Who][1:], false
			}
		}
	}
	if full < 200 || well < 500 {
		t.Fatal(full, well)
	}
}
