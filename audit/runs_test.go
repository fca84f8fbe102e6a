package audit_test

import (
	"math/rand/v2"
	"noria/actor"
	"noria/api"
	"noria/audit"
	"noria/exchange"
	"noria/room"
	"slices"
	"testing"
)

// crowd is an exchange to which whatever its own calls allow is done, as a generator picks it, refused or not.
type crowd struct {
	*exchange.Exchange
	g *rand.Rand
	// How many actors there are to be; there may be some more, if they come together.
	most int
	// How often each deed was seen, and how many calls were well, by names.
	deeds [8]int
	well  map[string]int
}

// crowded is such an exchange, with a ring or some.
func crowded(seed uint64) *crowd {
	c := &crowd{Exchange: exchange.New(), g: rand.New(rand.NewPCG(seed, 24)), most: 6 + int(seed%8), well: map[string]int{}}
	for range 1 + c.g.IntN(3) {
		c.ring()
	}
	return c
}

// count counts a call that was well.
func (c *crowd) count(name string, e error) {
	if e == nil {
		c.well[name]++
	}
}

// ring is a ring more, mostly a small one.
func (c *crowd) ring() {
	_, e := c.Ring(1<<c.g.IntN(4), bothKinds[c.g.IntN(2)])
	c.count("ring", e)
}

// who is an actor, or, at times, none.
func (c *crowd) who() int {
	if c.g.IntN(20) == 0 {
		return c.g.IntN(99) - 9
	}
	return c.g.IntN(c.Len() + 1)
}

// others are some actors, that may be named or not.
func (c *crowd) others() []int {
	var l []int
	for range c.g.IntN(3) {
		l = append(l, c.who())
	}
	return l
}

// more is one more, or some, if they may be.
func (c *crowd) more() {
	if c.Len() >= c.most {
		return
	}
	ring, w := c.g.IntN(c.Room().Rings()), all[c.g.IntN(4)]
	var e error
	what := []string{"producer", "consumer", "pool", "poller", "chooser", "build"}[c.g.IntN(6)]
	switch what {
	case "producer":
		_, e = c.Producer(ring, w)
	case "consumer":
		_, e = c.Consumer(ring, w, 1+c.g.IntN(5), c.others()...)
	case "pool":
		_, e = c.Pool(ring, w, 1+c.g.IntN(3), c.others()...)
	case "poller":
		_, e = c.Poller(ring, w, c.others()...)
	case "chooser":
		_, e = c.Chooser(c.g.Perm(c.Room().Rings())[:1+c.g.IntN(c.Room().Rings())]...)
	default:
		_, e = c.Build(ring, exchange.Spec{Way: w, Batch: 2, After: []int{1}}, exchange.Spec{Way: w, Batch: 1})
	}
	c.count(what, e)
}

// ask lets one have a call more, if it takes such.
func (c *crowd) ask() {
	who := c.who()
	var e error
	what := []string{"send", "offer", "poll", "receive", "select"}[c.g.IntN(5)]
	switch what {
	case "send":
		e = c.Send(who, make([]api.Event, 1+c.g.IntN(4))...)
	case "offer":
		e = c.Offer(who, make([]api.Event, 1+c.g.IntN(4))...)
	case "poll":
		e = c.Poll(who, 1+c.g.IntN(4))
	case "receive":
		e = c.Receive(who)
	default:
		e = c.Select(who, c.g.IntN(9)-4)
	}
	c.count(what, e)
}

// tell tells one to stop, or not to, or to leave.
func (c *crowd) tell() {
	who := c.who()
	var e error
	what := []string{"alert", "clear", "drain", "remove"}[c.g.IntN(4)]
	switch what {
	case "alert":
		e = c.Alert(who)
	case "clear":
		e = c.Clear(who)
	case "drain":
		e = c.Drain(who)
	default:
		_, e = c.Remove(who)
	}
	c.count(what, e)
}

// step lets one step that is ready, or, at times, whoever it is.
func (c *crowd) step() {
	who, ok := c.Room().Actors().Legal(c.g.IntN(999))
	if !ok || c.g.IntN(20) == 0 {
		who = c.who()
	}
	n, e := c.Step(who)
	if c.count("step", e); e == nil {
		c.deeds[n.Deed]++
	}
}

// act is one of all these; stops: whether some are told to stop.
func (c *crowd) act(stops bool) {
	switch what := c.g.IntN(60); {
	case what < 3:
		c.more()
	case what < 12:
		c.ask()
	case what == 12 && stops:
		c.tell()
	case what == 13:
		_, e := c.Tick(c.g.Int64N(4))
		c.count("tick", e)
	case what == 14 && c.g.IntN(30) == 0:
		c.ring()
	default:
		c.step()
	}
}

// stands wants nothing to be found, and nobody to lag by more than a size, or to be above the cursor.
func (c *crowd) stands(t *testing.T, seed uint64, i int) {
	t.Helper()
	if !audit.Sound(c.Exchange) {
		t.Fatal(seed, i, audit.Check(c.Exchange))
	}
	for ring := range c.Room().Rings() {
		for _, g := range audit.Lags(c.Exchange, ring) {
			if g.By < 0 || g.By > c.Room().Slots(ring).Size().Slots() {
				t.Fatal(seed, i, ring, g)
			}
		}
	}
}

// P24.3: whatever is done with an exchange by its own calls, at whatever moment nothing is found.
func TestSound(t *testing.T) {
	var deeds [8]int
	well := map[string]int{}
	halted, asleep, lost := 0, 0, 0
	for seed := range uint64(250) {
		c := crowded(seed)
		if seed%50 == 0 {
			c.most = api.MaxActors
		}
		for i := range 1500 {
			c.act(seed%3 > 0)
			c.stands(t, seed, i)
			asleep = max(asleep, c.Room().Clock().Waiting())
		}
		for d, n := range c.deeds {
			deeds[d] += n
		}
		for name, n := range c.well {
			well[name] += n
		}
		for who := range c.Len() {
			if halted += one(c.State(who) == actor.Halted); c.Left(who) {
				lost++
			}
		}
	}
	// All of it was there: else nothing would be shown by it.
	for d, n := range deeds {
		if n < 100 {
			t.Fatal(api.Deed(d), deeds)
		}
	}
	for _, name := range []string{
		"ring", "producer", "consumer", "pool", "poller", "chooser", "build", "send", "offer", "poll", "receive", "select",
		"alert", "clear", "drain", "remove", "tick", "step",
	} {
		if well[name] < 100 {
			t.Fatal(name, well)
		}
	}
	if halted < 100 || lost < 100 || asleep < 3 {
		t.Fatal(halted, lost, asleep)
	}
}

// P24.3: on a torn ring, too.
func TestSoundTorn(t *testing.T) {
	for _, far := range []int{3, 4, 5, 6} {
		for _, k := range holders {
			x := made(t, 1, room.Multi)
			p, q, r := must(t)(x.Producer(0, spin)), must(t)(x.Producer(0, spin)), must(t)(x.Producer(0, spin))
			for _, who := range []int{p, q, r, p, q} {
				done(t, x.Send(who, api.Event{Key: int64(who)}))
			}
			// Three that claim, one behind the other, indexes of the one slot that there is.
			for _, who := range []int{p, q, r} {
				steps(t, x, who, far)
				finds(t, x)
			}
			last, _ := number(x, x.Room().Cursor(0))
			if hi, e := x.Room().Published(0, 0); far == 5 && (last.Int64() != 2 || hi != -1 || e != nil) {
				t.Fatal("it isn't torn", last, hi, e)
			}
			who := join(t, x, k, 0)
			finds(t, x)
			for range 60 {
				for _, y := range []int{r, q, p, who} {
					if x.State(y) == actor.Ready {
						steps(t, x, y, 1)
					}
					finds(t, x)
				}
			}
			if c := audit.Lags(x, 0); len(c) != 1 || c[0].Who != who {
				t.Fatal(c)
			}
		}
	}
}

// P24.3: few who do little, of all kinds, in all turns of some steps, from some moments on.
func TestSoundTurns(t *testing.T) {
	const long = 5
	for _, g := range bothKinds {
		for _, far := range [][4]int{{}, {5, 4, 6, 3}, {9, 9, 8, 6}, {14, 12, 9, 9}} {
			for run := range 1024 {
				x := made(t, 2, g)
				p := must(t)(x.Producer(0, block))
				c := must(t)(x.Consumer(0, timed, 2))
				l := some(t)(x.Pool(0, block, 1, c))
				h := must(t)(x.Chooser(0))
				who := []int{p, c, l[0], h}
				done(t, x.Send(p, api.Event{}))
				done(t, x.Send(p, api.Event{}, api.Event{}))
				done(t, x.Select(h, 0))
				for i, n := range far {
					for range n {
						goOn(t, x, who[i])
					}
				}
				if _, e := x.Remove(h); e != nil {
					t.Fatal(e)
				}
				done(t, x.Alert(l[0]))
				for turn, i := run, 0; i < long; i++ {
					goOn(t, x, who[turn%4])
					turn /= 4
					if !audit.Sound(x) {
						t.Fatal(g, far, run, i, audit.Check(x))
					}
				}
			}
		}
	}
}

// goOn lets one step, if it is ready.
func goOn(t *testing.T, x *exchange.Exchange, who int) {
	t.Helper()
	if x.State(who) == actor.Ready {
		steps(t, x, who, 1)
	}
}

// harm does something behind the back of an exchange, that its own calls may not do.
func (c *crowd) harm() {
	r := c.Room()
	ring := c.g.IntN(r.Rings())
	switch c.g.IntN(7) {
	case 0, 1:
		r.Arena().Store(c.Cell(c.who(), ring), c.number())
	case 2:
		r.Arena().Store(r.Cursor(ring), c.number())
	case 3:
		if l := r.Gate(ring).Cells(); len(l) > 0 {
			r.Gate(ring).Drop(l[c.g.IntN(len(l))])
		}
	case 4:
		r.Gate(ring).Add(c.Cell(c.who(), ring))
	case 5:
		r.Halt(c.who())
	default:
		r.Clock().Set(r.Clock().Now()+3, c.who())
	}
}

// number is one of those that matter, or, mostly, a small one.
func (c *crowd) number() int64 {
	if i := c.g.IntN(30); i < len(ends) {
		return ends[i]
	}
	return c.g.Int64N(16) - 2
}

// P24.1, P24.2: of exchanges to which something was done behind their back just that is found which a plain reckoning finds.
func TestPlain(t *testing.T) {
	var found [7]int
	for seed := range uint64(300) {
		c := crowded(seed)
		for range 300 + c.g.IntN(400) {
			c.act(seed%3 > 0)
		}
		for i := range 60 {
			if c.harm(); c.g.IntN(3) == 0 {
				c.tell()
			}
			want := plain(c.Exchange)
			if l := audit.Check(c.Exchange); !slices.Equal(l, want) || audit.Sound(c.Exchange) != (len(want) == 0) {
				t.Fatal(seed, i, l, want)
			}
			for _, f := range want {
				found[f.Rule]++
			}
			for ring := range c.Room().Rings() {
				lags(t, c.Exchange, ring, plainLags(c.Exchange, ring)...)
			}
		}
	}
	for r, n := range found[1:] {
		if n < 500 {
			t.Fatal(r+1, found)
		}
	}
}
