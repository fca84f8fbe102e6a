package exchange_test

import (
	"math/rand/v2"
	"noria/actor"
	"noria/api"
	"noria/barrier"
	"noria/exchange"
	"noria/room"
	"noria/wait"
	"slices"
	"testing"
)

// goesOn says whether others may come behind somebody: it won't stop.
func (w *world) goesOn(a *player) bool {
	return !a.warned && !a.removed && !w.halted(a)
}

// settle lets all go on in turn, till all calls have returned, all is handled, and who was to leave has left; it says what was wrong.
func (w *world) settle() string {
	why := ""
	for _, a := range w.list {
		if !w.halted(a) && !a.removed {
			why += w.tell(a, barrier.Quiet)
		}
	}
	for i := 0; why == ""; i++ {
		left := 0
		for _, a := range w.list {
			n, y := w.goOn(a)
			left, why = left+n, why+y
		}
		if left == 0 {
			return why + w.whole() + w.sleep()
		}
		if i > 9000 {
			return "not all is handled"
		}
	}
	return why
}

// goOn lets one go on, and have a call, if there is something for it; how much is left for it, and what was wrong.
func (w *world) goOn(a *player) (left int, why string) {
	why = w.step(a)
	asks := a.kind == exchange.Poller || a.kind == exchange.Chooser
	if w.halted(a) {
		// Those who are told to stop, and not to leave, hold back till they are removed.
		if (a.kind == exchange.Consumer || a.kind == exchange.Poller) && !a.removed {
			why += w.remove(a)
		}
		return 0, why
	}
	// Who waits for an event, and for whom there is none, waits on.
	if left = len(a.calls); left > 0 && a.calls[0].waits {
		left = 0
	}
	for i, ring := range a.rings {
		switch {
		case a.removed:
			left++
		case a.kind != exchange.Producer && a.done[ring] != w.cursor(ring):
			left++
			if asks && len(a.calls) == 0 {
				why += w.ask(a, i+1)
			}
		}
		left += len(w.unsaid[ring])
	}
	return left, why
}

// whole says whether all that was published is what was handled.
func (w *world) whole() string {
	for ring := range w.Room().Rings() {
		if int64(len(w.log[ring])) != w.cursor(ring)+1 {
			return "what is published"
		}
	}
	for _, a := range w.list {
		for _, ring := range a.rings {
			last := w.cursor(ring)
			switch {
			case a.crew != nil && int64(len(a.crew.by)) != last+1-a.crew.start:
				return "a pool leaves something out"
			case a.kind != exchange.Producer && a.crew == nil && !a.left[ring] && a.next[ring] != last+1:
				return "not all is handled"
			}
		}
	}
	return ""
}

// sleep says whether all sleep that have nothing to do, and wait by sleeping.
func (w *world) sleep() string {
	why := ""
	for range 300 {
		for _, a := range w.list {
			why += w.step(a)
		}
	}
	for _, a := range w.list {
		byCalls := a.kind != exchange.Consumer && a.kind != exchange.Worker && len(a.calls) == 0
		if (byCalls || a.way.Parks()) && w.State(a.who) == actor.Ready {
			return why + "one that has nothing to do doesn't sleep"
		}
	}
	return why
}

// act is one of many acts, as a generator picks it.
func (w *world) act(t *testing.T, r *rand.Rand) string {
	a := w.list[r.IntN(len(w.list))]
	switch what := r.IntN(80); {
	case what < 8 && a.kind == exchange.Producer:
		return w.send(a, 1+r.IntN(int(min(w.slots, 5))), r.IntN(3) == 0)
	case what < 8 && a.kind == exchange.Poller:
		return w.ask(a, r.IntN(4))
	case what < 8 && a.kind == exchange.Chooser:
		return w.ask(a, r.IntN(20)-10)
	case what == 8:
		w.Tick(1 + r.Int64N(3))
	case what == 9 && r.IntN(4) == 0:
		return w.halt(t, r, a)
	case what == 10:
		return w.more(t, r)
	case what > 11:
		return w.step(a)
	}
	return w.wrong()
}

// halt tells one to stop that others can do without, or removes it, or takes that back.
func (w *world) halt(t *testing.T, r *rand.Rand, a *player) string {
	t.Helper()
	// The first one of each ring holds it back all along: where many send it might be torn else. The first worker of a pool goes on.
	anchor := slices.IndexFunc(w.list, func(y *player) bool { return y.kind == exchange.Consumer && y.rings[0] == a.rings[0] })
	if w.list[anchor] == a || w.followed(a) || a.crew != nil && a.crew.hands[0] == a {
		return ""
	}
	switch what := r.IntN(8); {
	case what == 0:
		return w.tell(a, barrier.Quiet)
	case what < 3:
		return w.tell(a, barrier.Alerted)
	case what < 5:
		return w.tell(a, barrier.Drain)
	case a.kind == exchange.Producer || a.kind == exchange.Worker || a.removed:
		return ""
	// One that is about to stop wouldn't leave any more.
	case a.warned && !w.halted(a) || a.kind == exchange.Chooser && w.halted(a):
		return ""
	}
	return w.remove(a)
}

// more lets there be one more, behind some of those that go on.
func (w *world) more(t *testing.T, r *rand.Rand) string {
	if len(w.list) >= 18 {
		return ""
	}
	ring, y := r.IntN(w.Room().Rings()), all[r.IntN(len(all))]
	var ahead []*player
	for _, a := range w.list {
		waits := a.kind != exchange.Producer && a.kind != exchange.Chooser && a.rings[0] == ring
		again := slices.ContainsFunc(ahead, func(y *player) bool { return y.crew != nil && y.crew == a.crew })
		if waits && !again && w.goesOn(a) && r.IntN(3) == 0 {
			ahead = append(ahead, a)
		}
	}
	switch r.IntN(6) {
	case 0:
		if w.Room().Many(ring) {
			w.sender(t, ring, y)
		}
	case 1, 2:
		w.reader(t, ring, y, 1+r.IntN(5), ahead...)
	case 3:
		w.gang(t, ring, y, 1+r.IntN(3), ahead...)
	case 4:
		w.asker(t, ring, y, ahead...)
	case 5:
		l := r.Perm(w.Room().Rings())
		w.chooser(t, l[:1+r.IntN(len(l))]...)
	}
	return w.wrong()
}

// P20.5, W1 to W8: long runs, that a generator picks, always the same, of all who send, handle, share and ask, who come, stop and leave.
func TestLong(t *testing.T) {
	var deeds [5][8]int
	var ends [5]map[api.Errno]int
	for k := range ends {
		ends[k] = map[api.Errno]int{}
	}
	for seed := range uint64(250) {
		r := rand.New(rand.NewPCG(seed, 20))
		var l []room.Kind
		for range 1 + seed%3 {
			l = append(l, kinds[r.IntN(2)])
		}
		w := create(t, 1<<(seed/3%4), l...)
		for ring := range l {
			w.reader(t, ring, all[r.IntN(4)], 1+r.IntN(4))
			w.sender(t, ring, all[r.IntN(4)])
		}
		for range 3 {
			w.more(t, r)
		}
		for i := range 1500 {
			if why := w.act(t, r); why != "" {
				t.Fatal(seed, i, why)
			}
		}
		if why := w.settle(); why != "" {
			t.Fatal(seed, why)
		}
		for k := range deeds {
			for d, n := range w.deeds[k] {
				deeds[k][d] += n
			}
			for code, n := range w.ends[k] {
				ends[k][code] += n
			}
		}
	}
	seen(t, deeds, ends)
}

// seen wants each deed of each kind, and each end of its calls, to have been seen.
func seen(t *testing.T, deeds [5][8]int, ends [5]map[api.Errno]int) {
	t.Helper()
	wants := [5][]api.Deed{
		{api.Silent, api.Shown, api.Returned, api.Stopped},
		{api.Silent, api.Handled, api.Moved, api.Late, api.Left, api.Stopped},
		{api.Silent, api.Handled, api.Moved, api.Late, api.Left, api.Stopped},
		{api.Silent, api.Handled, api.Moved, api.Returned, api.Left, api.Stopped},
		{api.Silent, api.Handled, api.Moved, api.Returned, api.Left, api.Stopped},
	}
	codes := [5][]api.Errno{
		{0, api.ErrFull, api.ErrAlerted, api.ErrTimeout}, nil, nil,
		{0, api.ErrIdle, api.ErrGating, api.ErrAlerted, api.ErrTimeout}, {0, api.ErrIdle, api.ErrGating, api.ErrAlerted},
	}
	for k := range wants {
		for _, d := range wants[k] {
			if deeds[k][d] < 20 {
				t.Fatal(k, d, deeds)
			}
		}
		for _, code := range codes[k] {
			if ends[k][code] < 20 {
				t.Fatal(k, code, ends)
			}
		}
	}
}

// P20.5, W1 to W3, W6: one who sends, one who handles, two who share behind it, and one who asks behind these, in all turns of some steps; then
// all goes on.
func TestTurns(t *testing.T) {
	const long = 5
	for _, k := range kinds {
		for _, far := range [][5]int{{}, {4, 5, 4, 3, 3}, {9, 9, 6, 8, 6}, {14, 16, 14, 12, 9}} {
			for run := range 3125 {
				w := create(t, 2, k)
				p := w.sender(t, 0, block)
				c := w.reader(t, 0, block, 2)
				g := w.gang(t, 0, block, 2, c)
				o := w.asker(t, 0, block, g.hands[1])
				why := w.send(p, 1, false) + w.send(p, 2, false) + w.send(p, 1, true) + w.ask(o, 0) + w.ask(o, 2) + w.ask(o, 0)
				for i, n := range far {
					for range n {
						why += w.step(w.list[i])
					}
				}
				for x, i := run, 0; i < long; i++ {
					why += w.step(w.list[x%5])
					x /= 5
				}
				if why += w.settle(); why != "" || c.next[0] != o.next[0] || c.next[0] < 3 {
					t.Fatal(k, far, run, why, c.next[0], o.next[0])
				}
			}
		}
	}
}

// W1: whatever way they wait, however many they handle at once, however many slots there are, whoever is behind whom, whoever claims: each
// handles what was sent, as it was sent.
func TestSame(t *testing.T) {
	for _, k := range kinds {
		for _, y := range all {
			for _, batch := range []int{1, 3, api.MaxBatch} {
				for shift := range 5 {
					for order := range 4 {
						w := create(t, 1<<shift, k)
						p := w.sender(t, 0, y)
						l := built(t, w, y, batch, order)
						why := ""
						for range 6 {
							why += w.send(p, 1, false)
						}
						if why += w.settle(); why != "" || len(w.log[0]) != 6 {
							t.Fatal(k, y, batch, shift, order, why)
						}
						for seq := range int64(6) {
							if w.log[0][seq] != (api.Event{Key: seq + 1, Val: -seq - 1}) {
								t.Fatal(w.log)
							}
						}
						for _, a := range l {
							if a.next[0] != 6 {
								t.Fatal(k, y, batch, shift, order, a.who, a.next[0])
							}
						}
					}
				}
			}
		}
	}
}

// built are three consumers that are built at once, behind each other in one of four ways.
func built(t *testing.T, w *world, y wait.Way, batch, order int) []*player {
	t.Helper()
	after := [][3][]int{{}, {{1}, {2}, nil}, {nil, nil, {0, 1}}, {{2}, {2}, nil}}[order]
	var l []exchange.Spec
	for _, ahead := range after {
		l = append(l, exchange.Spec{Way: y, Batch: batch, After: ahead})
	}
	who := some(t)(w.Build(0, l...))
	var list []*player
	for place := range who {
		list = append(list, &player{who: who[place], kind: exchange.Consumer, way: y, batch: batch, rings: []int{0}})
	}
	for place, ahead := range after {
		for _, n := range ahead {
			list[place].ahead = append(list[place].ahead, list[n])
		}
		w.join(list[place])
	}
	return list
}

// W2, P20.5: one that is removed while one that was removed ahead of it is still behind it: each is done with what it handled, and holds back
// till it left.
func TestRemoveInTurn(t *testing.T) {
	for _, k := range kinds {
		for far := range 60 {
			w := create(t, 4, k)
			p := w.sender(t, 0, block)
			w.reader(t, 0, block, 1)
			a := w.reader(t, 0, block, 2)
			b := w.reader(t, 0, block, 2, a)
			o := w.asker(t, 0, block, b)
			why := w.send(p, 3, false) + w.send(p, 3, false) + w.ask(o, 2) + w.ask(o, 0)
			for i := range 5 * far {
				why += w.step(w.list[i%5])
			}
			why += w.remove(o) + w.remove(b) + w.remove(a)
			if why += w.settle(); why != "" || !w.Left(a.who) || !w.Left(b.who) || !w.Left(o.who) || b.next[0] > a.next[0] || o.next[0] > b.next[0] {
				t.Fatal(k, far, why, a.next[0], b.next[0], o.next[0])
			}
			if w.Room().Gate(0).Len() != 1 || w.cursor(0) != 5 {
				t.Fatal(k, far, w.Room().Gate(0).Cells(), w.cursor(0))
			}
		}
	}
}

// P20.5 (P15.6): one who sends, is alerted, and steps alone, at whatever moment, ends its call within so many steps.
func TestAlone(t *testing.T) {
	for _, k := range kinds {
		for _, y := range all {
			for held := range 4 {
				for far := range 40 {
					w := create(t, 4, k)
					p := w.sender(t, 0, y)
					why := ""
					for range held {
						w.reader(t, 0, spin, 2)
					}
					for n := range 3 {
						why += w.send(p, 1+n, n == 2)
					}
					for i := range 2 * far {
						why += w.step(w.list[i%len(w.list)])
					}
					if len(p.calls) == 0 {
						continue
					}
					calls, most := len(p.calls), 2*(held+4)+2*len(p.calls[0].events)+4
					why += w.tell(p, barrier.Alerted)
					for steps := 0; why == "" && len(p.calls) == calls; steps++ {
						if why = w.step(p); steps >= most {
							why += "it doesn't end its call"
						}
					}
					if why != "" {
						t.Fatal(k, y, held, far, why)
					}
				}
			}
		}
	}
}
