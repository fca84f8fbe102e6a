package wait_test

import (
	"errors"
	"math"
	"noria/api"
	"noria/fault"
	"noria/wait"
	"slices"
	"testing"
)

const (
	mostTries = 1000
	mostTime  = 1 << 30
)

// edges are numbers near the ends of their type, and near the bounds that the document names.
var edges = []int64{math.MinInt64, math.MinInt64 + 1, -api.MaxTime, -2, -1, 0, 1, 2, 999, 1000, 1001, mostTime - 1, mostTime, mostTime + 1, 1 << 32, api.MaxTime - 1, api.MaxTime, api.MaxTime + 1, math.MaxInt64 - 1, math.MaxInt64}

// times are those from 0 to MaxTime near its ends, and near those of a wait.
var times = []int64{0, 1, 2, 3, 1 << 20, mostTime, api.MaxTime - mostTime - 1, api.MaxTime - mostTime, api.MaxTime - mostTime + 1, api.MaxTime - 7, api.MaxTime - 1, api.MaxTime}

// kinds are all that are ways; odd are some that are none.
var (
	kinds = []wait.Kind{wait.Spin, wait.Yield, wait.Block, wait.Timed}
	odd   = []wait.Kind{-1, 4, 5, 256, 1 << 32, math.MinInt, math.MinInt + 1, math.MaxInt}
)

// legal are ways that may be, of each kind; fields that the kind doesn't name have any number.
func legal() []wait.Way {
	var l []wait.Way
	for _, n := range edges {
		l = append(l, wait.Way{Kind: wait.Spin, Tries: int(n), Time: n}, wait.Way{Kind: wait.Block, Tries: int(n), Time: n})
	}
	for _, n := range []int{0, 1, 2, 5, 999, mostTries} {
		l = append(l, wait.Way{Kind: wait.Yield, Tries: n, Time: int64(-n)})
	}
	for _, n := range []int64{1, 2, 5, mostTime - 1, mostTime} {
		l = append(l, wait.Way{Kind: wait.Timed, Tries: int(-n), Time: n})
	}
	return l
}

// at wants a patience to be so.
func at(t *testing.T, p wait.Patience, tries int, told bool, until int64) {
	t.Helper()
	if p.Tries() != tries || p.Told() != told || p.Until() != until {
		t.Fatal(p.Tries(), p.Told(), p.Until(), tries, told, until)
	}
}

// vain wants one who looked in vain to do this.
func vain(t *testing.T, p wait.Patience, now int64, want wait.Action) wait.Patience {
	t.Helper()
	q, act := p.Vain(now)
	if act != want {
		t.Fatal(p, now, act, want)
	}
	return q
}

// plain is what the chapter says of Next.
func plain(w wait.Way, tries int, told bool, now, deadline int64) wait.Action {
	if w.Kind == wait.Timed && now >= deadline {
		return wait.GiveUp
	}
	if w.Kind == wait.Timed || w.Kind == wait.Block {
		if told {
			return wait.Park
		}
		return wait.Enlist
	}
	if w.Kind == wait.Yield && tries > w.Tries {
		return wait.Rest
	}
	return wait.Again
}

// The chapter's example.
func TestExample(t *testing.T) {
	w := wait.Way{Kind: wait.Timed, Time: 5}
	if at, ahead := w.Next(1, false, 7, 7), w.Next(1, false, 6, 7); at != wait.GiveUp || ahead != wait.Enlist {
		t.Fatal(at, ahead)
	}
}

// Ways and actions have the chapter's numbers.
func TestNumbers(t *testing.T) {
	for i, k := range kinds {
		if int(k) != i {
			t.Fatal(i, k)
		}
	}
	for i, act := range []wait.Action{wait.Again, wait.Rest, wait.Enlist, wait.Park, wait.GiveUp} {
		if int(act) != i {
			t.Fatal(i, act)
		}
	}
}

// P11.1: Check finds nothing wrong with a way that may be; what its kind doesn't name isn't looked at.
func TestCheck(t *testing.T) {
	for _, w := range append(legal(), wait.Way{}) {
		if e := wait.Check(w); e != nil {
			t.Error(w, e)
		}
	}
}

// P11.1, Errors: what is wrong with a way: first its kind, then how often, or how long.
func TestCheckRefused(t *testing.T) {
	for _, k := range odd {
		for _, n := range edges {
			if e := wait.Check(wait.Way{Kind: k, Tries: int(n), Time: n}); !errors.Is(e, api.ErrArg) {
				t.Error(k, n, e)
			}
		}
	}
	for _, n := range edges {
		wrong := n < 0 || n > mostTries
		if e := wait.Check(wait.Way{Kind: wait.Yield, Tries: int(n), Time: 1}); errors.Is(e, api.ErrRange) != wrong || (e != nil) != wrong {
			t.Error("tries", n, e)
		}
		wrong = n < 1 || n > mostTime
		if e := wait.Check(wait.Way{Kind: wait.Timed, Tries: 1, Time: n}); errors.Is(e, api.ErrRange) != wrong || (e != nil) != wrong {
			t.Error("time", n, e)
		}
	}
}

// P11.1: what each way does, in words.
func TestNext(t *testing.T) {
	for _, c := range []struct {
		w             wait.Way
		tries         int
		told          bool
		now, deadline int64
		want          wait.Action
	}{
		{wait.Way{}, 0, false, 0, 0, wait.Again},
		{wait.Way{}, 5000, true, 9, 1, wait.Again},
		{wait.Way{Kind: wait.Yield, Tries: 2}, 1, false, 0, 0, wait.Again},
		{wait.Way{Kind: wait.Yield, Tries: 2}, 2, true, 9, 1, wait.Again},
		{wait.Way{Kind: wait.Yield, Tries: 2}, 3, false, 0, 0, wait.Rest},
		{wait.Way{Kind: wait.Yield}, 0, false, 0, 0, wait.Again},
		{wait.Way{Kind: wait.Yield}, 1, false, 0, 0, wait.Rest},
		{wait.Way{Kind: wait.Yield, Tries: 1000}, 1000, false, 0, 0, wait.Again},
		{wait.Way{Kind: wait.Yield, Tries: 1000}, 1001, false, 0, 0, wait.Rest},
		{wait.Way{Kind: wait.Block}, 1, false, 0, 0, wait.Enlist},
		{wait.Way{Kind: wait.Block}, 1, true, 9, 1, wait.Park},
		{wait.Way{Kind: wait.Timed, Time: 5}, 1, false, 4, 5, wait.Enlist},
		{wait.Way{Kind: wait.Timed, Time: 5}, 1, true, 4, 5, wait.Park},
		{wait.Way{Kind: wait.Timed, Time: 5}, 1, false, 5, 5, wait.GiveUp},
		{wait.Way{Kind: wait.Timed, Time: 5}, 1, true, 6, 5, wait.GiveUp},
	} {
		if act := c.w.Next(c.tries, c.told, c.now, c.deadline); act != c.want {
			t.Error(c, act)
		}
	}
}

// P11.1: of any numbers, and of ways that may not be too: held against the chapter's words. A kind that is none is as Spin.
func TestNextAll(t *testing.T) {
	for _, k := range slices.Concat(kinds, odd) {
		for _, n := range edges {
			w := wait.Way{Kind: k, Tries: int(n), Time: n}
			for _, tries := range edges {
				for _, now := range edges {
					for _, told := range []bool{false, true} {
						if act := w.Next(int(tries), told, now, n); act != plain(w, int(tries), told, now, n) {
							t.Fatal(w, tries, told, now, act)
						}
					}
				}
			}
		}
	}
}

// P11.2: the deadline of Timed is so long behind now, and MaxTime at most; others have none.
func TestDeadline(t *testing.T) {
	for _, w := range legal() {
		for _, now := range times {
			want := int64(0)
			if w.Kind == wait.Timed {
				want = min(now+w.Time, api.MaxTime)
			}
			if d := w.Deadline(now); d != want {
				t.Error(w, now, d, want)
			}
			at(t, w.Begin(now), 0, false, want)
		}
	}
	w := wait.Way{Kind: wait.Timed, Time: 7}
	if x, y, z := w.Deadline(0), w.Deadline(api.MaxTime-7), w.Deadline(api.MaxTime-6); x != 7 || y != api.MaxTime || z != api.MaxTime {
		t.Fatal(x, y, z)
	}
}

// P11.2: a kind that is none has no deadline, as Spin has none, whatever else stands there.
func TestDeadlineNone(t *testing.T) {
	for _, k := range odd {
		for _, n := range edges {
			for _, now := range times {
				w := wait.Way{Kind: k, Tries: int(n), Time: n}
				if d := w.Deadline(now); d != 0 {
					t.Fatal(w, now, d)
				}
				p := w.Begin(now)
				at(t, p, 0, false, 0)
				at(t, vain(t, p, now, wait.Again), 1, false, 0)
			}
		}
	}
}

// P11.2: who waits by Block or Timed parks, nobody else.
func TestParks(t *testing.T) {
	for _, k := range slices.Concat(kinds, odd) {
		for _, n := range edges {
			if got := (wait.Way{Kind: k, Tries: int(n), Time: n}).Parks(); got != (k == wait.Block || k == wait.Timed) {
				t.Error(k, n, got)
			}
		}
	}
}

// P11.2: each way has its name, by which it is found; what is no way has none.
func TestName(t *testing.T) {
	for i, name := range []string{"spin", "yield", "block", "timed"} {
		if s := wait.Kind(i).Name(); s != name {
			t.Error(i, s)
		}
		if k, e := wait.Named(name); k != wait.Kind(i) || e != nil {
			t.Error(name, k, e)
		}
	}
	for _, k := range odd {
		if s := k.Name(); s != "none" {
			t.Error(k, s)
		}
	}
}

// P11.2, Errors: what is no way's name is ErrForm, to the letter.
func TestNamedRefused(t *testing.T) {
	for _, s := range []string{"", "none", "Spin", "BLOCK", " block", "block ", "block\n", "bloc", "blocks", "timed:5", "yield:2", "spin yield", "0", "2", "\x00", "spin\x00", "\xff\xfe", "ſpin"} {
		if k, e := wait.Named(s); k != 0 || !errors.Is(e, api.ErrForm) {
			t.Errorf("%q %v %v", s, k, e)
		}
	}
}

// P11.3: the patience of who begins to wait, and a zero one, which is of Spin.
func TestBegin(t *testing.T) {
	at(t, wait.Way{Kind: wait.Timed, Time: 5}.Begin(2), 0, false, 7)
	at(t, wait.Way{Kind: wait.Block, Time: 5}.Begin(2), 0, false, 0)
	at(t, wait.Way{Kind: wait.Yield, Tries: 5}.Begin(2), 0, false, 0)
	at(t, wait.Way{}.Begin(2), 0, false, 0)
	var p wait.Patience
	at(t, p, 0, false, 0)
	for i := range 2000 {
		p = vain(t, p, int64(i), wait.Again)
		at(t, p, i+1, false, 0)
	}
}

// P11.3: who spins looks again, each time; who yields rests behind so many looks, each time.
func TestSpinYield(t *testing.T) {
	for _, tries := range []int{0, 1, 2, 17, mostTries} {
		p, q := wait.Way{Tries: tries}.Begin(3), wait.Way{Kind: wait.Yield, Tries: tries}.Begin(3)
		for i := 1; i < tries+20; i++ {
			p = vain(t, p, 3, wait.Again)
			if i <= tries {
				q = vain(t, q, 3, wait.Again)
			} else {
				q = vain(t, q, 3, wait.Rest)
			}
			at(t, p, i, false, 0)
			at(t, q, i, false, 0)
		}
	}
}

// P11.3: who blocks is told, then parks, then is told anew, however late it is.
func TestBlock(t *testing.T) {
	p := wait.Way{Kind: wait.Block, Tries: 3, Time: 1}.Begin(5)
	for i := 1; i < 3000; i += 2 {
		p = vain(t, p, api.MaxTime, wait.Enlist)
		at(t, p, i, true, 0)
		p = vain(t, p, 0, wait.Park)
		at(t, p, i+1, false, 0)
	}
}

// P11.3: who waits for a time does so till then, and gives up from then on; what it was told stays.
func TestTimed(t *testing.T) {
	w := wait.Way{Kind: wait.Timed, Time: 5}
	p := vain(t, w.Begin(2), 2, wait.Enlist)
	at(t, p, 1, true, 7)
	at(t, vain(t, p, 7, wait.GiveUp), 2, true, 7)
	q := vain(t, p, 6, wait.Park)
	at(t, q, 2, false, 7)
	at(t, vain(t, q, 8, wait.GiveUp), 3, false, 7)
	at(t, vain(t, q, 6, wait.Enlist), 3, true, 7)
	at(t, vain(t, w.Begin(2), 7, wait.GiveUp), 1, false, 7)
	late := vain(t, vain(t, p, 9, wait.GiveUp), 3, wait.Park)
	at(t, late, 3, false, 7)
}

// P11.3: at the end of all time a wait is shorter, and ends there.
func TestTimedLast(t *testing.T) {
	w := wait.Way{Kind: wait.Timed, Time: mostTime}
	p := w.Begin(api.MaxTime - 1)
	at(t, p, 0, false, api.MaxTime)
	p = vain(t, p, api.MaxTime-1, wait.Enlist)
	vain(t, p, api.MaxTime, wait.GiveUp)
	vain(t, w.Begin(api.MaxTime), api.MaxTime, wait.GiveUp)
}

// P11.3: a patience is a value: one that looks in vain leaves it as it was.
func TestValue(t *testing.T) {
	first := wait.Way{Kind: wait.Block}.Begin(0)
	second := vain(t, first, 0, wait.Enlist)
	third := vain(t, second, 0, wait.Park)
	at(t, first, 0, false, 0)
	at(t, second, 1, true, 0)
	at(t, third, 2, false, 0)
	at(t, vain(t, first, 0, wait.Enlist), 1, true, 0)
	at(t, vain(t, second, 0, wait.Park), 2, false, 0)
}

// P11.3: what one does is Next, of one look more: all ways, by all turns of the time.
func TestVainIsNext(t *testing.T) {
	ways := append(legal(), wait.Way{Kind: 9, Time: 2}, wait.Way{Kind: -1, Tries: 1})
	for _, w := range ways {
		for code := range 1 << 8 {
			p, tries, told, until := w.Begin(2), 0, false, w.Deadline(2)
			for i := range 8 {
				now := int64(2 + code>>i&1*mostTime)
				tries++
				want := w.Next(tries, told, now, until)
				told = want == wait.Enlist || told && want != wait.Park
				p = vain(t, p, now, want)
				at(t, p, tries, told, until)
			}
		}
	}
}

// P11.4: who parks was told behind its last park, and looked once more behind that: all ways, by all turns of the time.
func TestParksTold(t *testing.T) {
	parks := 0
	for _, w := range append(legal(), wait.Way{Kind: 9}) {
		for code := range 1 << 10 {
			p, since := w.Begin(1), -1
			for i := range 10 {
				q, act := p.Vain(int64(1 + code>>i&1*5))
				if act == wait.Park {
					if since < 0 || since >= i {
						t.Fatal(w, code, i, since)
					}
					since = -1
					parks++
				}
				if act == wait.Enlist {
					since = i
				}
				if !w.Parks() && (act == wait.Enlist || act == wait.Park || q.Told()) {
					t.Fatal(w, code, i, act)
				}
				p = q
			}
		}
	}
	if parks == 0 {
		t.Fatal("nobody parked")
	}
}

// R1: no numbers let a call panic.
func TestAnyNumbers(t *testing.T) {
	for _, k := range slices.Concat(kinds, odd) {
		for _, n := range edges {
			w := wait.Way{Kind: k, Tries: int(n), Time: n}
			for _, now := range edges {
				w.Deadline(now)
				p := w.Begin(now)
				for _, then := range edges {
					p, _ = p.Vain(then)
				}
			}
		}
	}
}

// Errors are numbers within faults, whose place tells which number was refused.
func TestPlace(t *testing.T) {
	e := wait.Check(wait.Way{Kind: wait.Yield, Tries: -4})
	if op, seq, ok := fault.At(e); op != "tries" || seq != -4 || !ok || fault.Code(e) != api.ErrRange {
		t.Fatal(op, seq, ok)
	}
}
