package runner_test

import (
	"math/rand/v2"
	"noria/actor"
	"noria/api"
	"noria/exchange"
	"noria/runner"
	"testing"
)

// play is a runner whose rings are never torn: of each ring of many the first consumer holds it back all along, or one alone sends.
type play struct {
	*runner.Runner
	g *rand.Rand
	// The actors that are never told to stop.
	stay map[int]bool
	// Whether those who ask, and those who are told to stop, may come.
	asks, warns bool
	key         int64
}

// opened is such a runner, with some rings, each with one who sends, and most with one who handles.
func opened(t *testing.T, seed uint64) *play {
	t.Helper()
	g := rand.New(rand.NewPCG(seed, 216))
	p := &play{Runner: runner.New(), g: g, stay: map[int]bool{}, asks: seed%4 > 0, warns: seed%3 > 0}
	for id := range 1 + g.IntN(3) {
		played(t, p.Runner, bothKinds(1 << g.IntN(5))[g.IntN(2)])
		if alone := g.IntN(6) == 0; !alone {
			p.stay[p.Exchange().Len()] = true
			played(t, p.Runner, consumer(id, all[g.IntN(4)], 1+g.IntN(4)))
		}
		played(t, p.Runner, producer(id, all[g.IntN(4)]))
	}
	return p
}

// held says whether one who is never told to stop holds a ring back.
func (p *play) held(ring int) bool {
	for who := range p.stay {
		if p.Exchange().Rings(who)[0] == ring {
			return true
		}
	}
	return false
}

// more is a line by which there is one more.
func (p *play) more() runner.Op {
	x := p.Exchange()
	id, w := p.g.IntN(x.Room().Rings()), all[p.g.IntN(4)]
	var ahead []int
	if who := p.g.IntN(x.Len()); p.g.IntN(2) == 0 {
		ahead = append(ahead, who)
	}
	switch what := p.g.IntN(6); {
	case what == 0 && p.held(id):
		return producer(id, w)
	case what == 1 && p.asks:
		return poller(id, w, ahead...)
	case what == 2 && p.asks:
		return chooser(p.g.Perm(x.Room().Rings())[:1+p.g.IntN(x.Room().Rings())]...)
	case what == 3:
		return workers(id, w, 1+p.g.IntN(3), ahead...)
	}
	return consumer(id, w, 1+p.g.IntN(5), ahead...)
}

// ask is a line by which one has a call more, if it takes calls.
func (p *play) ask(who int) runner.Op {
	switch k, _ := p.Exchange().Kind(who); k {
	case exchange.Producer:
		var keys []int64
		for range 1 + p.g.IntN(4) {
			p.key++
			keys = append(keys, p.key)
		}
		if p.g.IntN(3) == 0 {
			return offer(who, keys...)
		}
		return send(who, keys...)
	case exchange.Poller:
		if p.g.IntN(2) == 0 {
			return on(runner.Receive, who)
		}
		return poll(who, 1+p.g.IntN(4))
	case exchange.Chooser:
		return runner.Op{Do: runner.Select, Who: who, N: p.g.IntN(9) - 4}
	}
	return pick(p.g.IntN(99))
}

// line is one of many lines, that may be refused.
func (p *play) line() runner.Op {
	who := p.g.IntN(p.Exchange().Len())
	switch what := p.g.IntN(40); {
	case what < 7:
		return p.ask(who)
	case what == 7 && p.Exchange().Len() < 16:
		return p.more()
	case what == 8:
		return tick(1 + p.g.Int64N(3))
	case what == 9 && p.warns && !p.stay[who]:
		return on([]runner.Deed{runner.Alert, runner.Drain, runner.Clear, runner.Remove}[p.g.IntN(4)], who)
	}
	return pick(p.g.IntN(2000) - 1000)
}

// release lets nobody hold up any more, as far as that may be: those who ask leave, those who are told to stop aren't any more, or leave when they
// have stopped.
func (p *play) release() {
	for range 40 {
		for who := range p.Exchange().Len() {
			k, _ := p.Exchange().Kind(who)
			if k == exchange.Poller || k == exchange.Chooser || p.Exchange().State(who) == actor.Halted && k == exchange.Consumer {
				p.Do(on(runner.Remove, who))
			} else {
				p.Do(on(runner.Clear, who))
			}
		}
		if p.Free() {
			return
		}
		for range 10 {
			p.Round()
		}
	}
}

// P21.6, W6: when nobody holds up, whatever was done, all is at rest within Bound rounds, whoever steps between.
func TestReturn(t *testing.T) {
	frees, calls, rounds := 0, 0, 0
	for seed := range uint64(600) {
		p := opened(t, seed)
		for range 50 + p.g.IntN(800) {
			p.Do(p.line())
		}
		if !p.Free() {
			p.release()
		}
		if !p.Free() {
			continue
		}
		frees++
		// More calls, at whatever moment.
		for range p.g.IntN(200) {
			if who := p.g.IntN(p.Exchange().Len()); p.g.IntN(3) > 0 {
				p.Run(p.g.IntN(999))
			} else if k, _ := p.Exchange().Kind(who); k == exchange.Producer {
				p.Do(p.ask(who))
			}
		}
		if !p.Free() {
			t.Fatal(seed, "steps of those who aren't told to stop hold up")
		}
		for who := range p.Exchange().Len() {
			calls += p.Exchange().Pending(who)
		}
		n := p.returns(t, seed)
		rounds = max(rounds, n)
	}
	if frees < 300 || calls < 500 || rounds < 50 {
		t.Fatal(frees, calls, rounds)
	}
}

// returns lets all go on till all is at rest: how many rounds that took.
func (p *play) returns(t *testing.T, seed uint64) int {
	t.Helper()
	most, between := p.Bound(), p.g.IntN(30)
	for n := range most + 1 {
		if p.Over() {
			p.whole(t, seed)
			return n
		}
		// Others step between, as they are picked; sometimes always the same one.
		for range between {
			p.Run([]int{p.g.IntN(999), 0, -1}[seed%3])
		}
		p.Round()
	}
	t.Fatal(seed, "it doesn't come to rest within", most)
	return 0
}

// whole wants all calls to have returned, and all that is published to have been handled by all who handle.
func (p *play) whole(t *testing.T, seed uint64) {
	t.Helper()
	x := p.Exchange()
	a := x.Room().Arena().Clone()
	next := map[[2]int]int64{}
	for _, n := range p.Notes() {
		if n.Deed == api.Handled {
			next[[2]int{n.Who, n.Ring}]++
		}
	}
	for who := range x.Len() {
		if x.Pending(who) > 0 {
			t.Fatal(seed, who, "a call hasn't returned")
		}
		k, _ := x.Kind(who)
		if k != exchange.Consumer || x.State(who) == actor.Halted {
			continue
		}
		id := x.Rings(who)[0]
		last, _ := a.Load(x.Room().Cursor(id))
		if has, _ := a.Load(x.Cell(who, id)); has != last || next[[2]int{who, id}] != last+1-x.Start(who, id) {
			t.Fatal(seed, who, has, last, next)
		}
	}
}

// P21.6: of few who do little, whatever their kinds and ways, from all moments on.
func TestReturnSoon(t *testing.T) {
	for _, g := range bothKinds(2) {
		for _, w := range all {
			for far := range 60 {
				for order := range 3 {
					lines := [][]runner.Op{
						{consumer(0, w, 1), producer(0, w), workers(0, w, 2, 0)},
						{producer(0, w), consumer(0, w, 2), consumer(0, w, 1, 1)},
						{workers(0, w, 1), consumer(0, w, 3, 0), producer(0, w)},
					}[order]
					r := ran(t, append([]runner.Op{g}, lines...)...)
					who := []int{1, 0, 2}[order]
					played(t, r, send(who, 1, 2), send(who, 3), offer(who, 4, 5), send(who, 6, 7))
					for i := range far {
						r.Run(i * i)
					}
					most := r.Bound()
					if n, ok := r.Settle(most); !ok || !r.Free() || n > 100 {
						t.Fatal(g, w, far, order, n, ok)
					}
				}
			}
		}
	}
}
