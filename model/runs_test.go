package model_test

import (
	"math"
	"math/rand/v2"
	"noria/api"
	"noria/fault"
	"noria/model"
	"testing"
)

// ends are numbers near the ends of their type, and near the bounds that the document names.
var ends = []int64{math.MinInt64, -2, -1, 0, 1, 2, 8191, 8192, 8193, api.MaxSeq - 1, api.MaxSeq, api.MaxSeq + 1, math.MaxInt64}

// world is a model, and what a plain one makes of the same.
type world struct {
	*model.Model
	p     *plain
	g     *rand.Rand
	tries map[api.Errno]int
	deeds map[api.Deed]int
}

func newWorld(seed uint64) *world {
	return &world{Model: model.New(), p: &plain{}, g: rand.New(rand.NewPCG(seed, 23)), tries: map[api.Errno]int{}, deeds: map[api.Deed]int{}}
}

// opens lets there be a log with those who write, and those who read, some behind others.
func (w *world) opens(t *testing.T) {
	size, many := int64(1+w.g.IntN(4)), w.g.IntN(2) == 0
	_, e := w.Log(size, many)
	_, code := w.p.log(size, many)
	w.same(t, size, e, code)
	w.same(t, 0, w.Writer(0, 0), w.p.writer(0, 0))
	if many {
		w.same(t, 1, w.Writer(1, 0), w.p.writer(1, 0))
	}
	w.same(t, 2, w.Reader(2, 0, 0), w.p.read(false, 0, 0, []int{2}, nil))
	ahead := []int{2}[w.g.IntN(2):]
	w.same(t, 3, w.Pool(0, 1, []int{3, 4}, ahead...), w.p.read(true, 0, 1, []int{3, 4}, ahead))
	ahead = []int{4, 2, 3}[w.g.IntN(4):]
	w.same(t, 5, w.Reader(5, 0, 0, ahead...), w.p.read(false, 0, 0, []int{5}, ahead))
}

// same wants an error to be the plain one.
func (w *world) same(t *testing.T, what any, e error, want api.Errno) {
	t.Helper()
	if fault.Code(e) != want {
		t.Fatal(what, e, want)
	}
	w.tries[want]++
}

// number is one of n, or now and then one near the ends.
func (w *world) number(n int) int {
	if w.g.IntN(30) == 0 {
		return int(ends[w.g.IntN(len(ends))])
	}
	return w.g.IntN(n)
}

func (w *world) some(n int) []int {
	var l []int
	for range w.g.IntN(n + 1) {
		l = append(l, w.number(7))
	}
	return l
}

// joins lets one more come.
func (w *world) joins(t *testing.T) {
	who, ring, start := w.number(7), w.number(2), int64(w.number(3))
	switch w.g.IntN(8) {
	case 0:
		size, many := int64(1+w.g.IntN(5)), w.g.IntN(2) == 0
		if w.g.IntN(4) == 0 {
			size = ends[w.g.IntN(len(ends))]
		}
		got, e := w.Log(size, many)
		want, code := w.p.log(size, many)
		if w.same(t, size, e, code); got != want {
			t.Fatal(got, want)
		}
	case 1, 2:
		w.same(t, "writer", w.Writer(who, ring), w.p.writer(who, ring))
	case 3, 4:
		l, ahead := w.some(3), w.some(1)
		w.same(t, l, w.Pool(ring, start, l, ahead...), w.p.read(true, ring, start, l, ahead))
	default:
		ahead := w.some(1)
		w.same(t, ahead, w.Reader(who, ring, start, ahead...), w.p.read(false, ring, start, []int{who}, ahead))
	}
}

// sends lets one have a call more.
func (w *world) sends(t *testing.T) {
	var l []api.Event
	for range w.g.IntN(4) {
		l = append(l, api.Event{Key: w.g.Int64N(3), Val: w.g.Int64N(2)})
	}
	who := w.number(7)
	if w.g.IntN(3) > 0 {
		who = w.g.IntN(2)
	}
	w.same(t, l, w.Send(who, l...), w.p.send(who, l))
}

// fit is a note that may be, or may be nearly, of one who writes or reads.
func (w *world) fit(j join) api.Note {
	n := api.Note{Who: j.who, Ring: j.ring}
	if j.writes {
		l, ended := w.p.calls(j.who)
		if len(l) == ended {
			n.Deed = []api.Deed{api.Stopped, api.Shown, api.Returned}[max(0, w.g.IntN(30)-27)]
			return n
		}
		c := l[ended]
		if len(c.shown) == len(c.events) || len(c.shown) == 0 && w.g.IntN(10) == 0 {
			n.Deed = api.Returned
			if len(c.shown) == 0 {
				n.Code = api.Errno(1 + w.g.IntN(3))
			} else {
				n.Lo, n.Seq = c.shown[0], c.shown[len(c.shown)-1]
			}
			return n
		}
		n.Deed, n.Lo = api.Shown, w.first(j, c)
		n.Seq = n.Lo + int64(len(c.events)) - 1
		if w.p.logs[j.ring].many {
			n.Seq = n.Lo
		}
		return n
	}
	cursor, next := w.p.cursor(&j), w.p.next(&j)
	if j.pool != 0 {
		next = int64(w.g.IntN(9))
	}
	n.Deed = []api.Deed{api.Handled, api.Handled, api.Handled, api.Handled, api.Moved, api.Moved, api.Moved, api.Returned, api.Returned, api.Late, api.Left, api.Stopped}[w.g.IntN(12)]
	switch n.Deed {
	case api.Handled:
		n.Lo, n.Seq = next, next
		n.X = w.p.published(j.ring)[next]
	case api.Moved:
		n.Lo, n.Seq = cursor+1, next-1
	case api.Returned:
		n.Lo, n.Seq = w.p.since(&j), next-1
		if n.Lo == next || w.g.IntN(9) == 0 {
			n.Code = api.ErrIdle
		}
	case api.Late:
		n.Seq = cursor + 1
	case api.Left:
		n.Seq = cursor
	}
	return n
}

// first is the next index of a call, or near it.
func (w *world) first(j join, c call) int64 {
	if len(c.shown) > 0 {
		return c.shown[len(c.shown)-1] + 1
	}
	there := w.p.published(j.ring)
	i := int64(0)
	for _, ok := there[i]; ok; _, ok = there[i] {
		i++
	}
	if w.p.logs[j.ring].many {
		i += int64(w.g.IntN(3))
	}
	return i
}

// bent is a note with something else in it.
func (w *world) bent(n api.Note) api.Note {
	by := []int64{-1, 1, -2, 2, ends[w.g.IntN(len(ends))]}[w.g.IntN(5)]
	switch w.g.IntN(9) {
	case 0:
		n.Who = w.number(8)
	case 1:
		n.Ring = w.number(3)
	case 2:
		n.Deed = api.Deed(w.number(9)) - api.Deed(w.g.IntN(2))
	case 3:
		n.Lo += by
	case 4, 5:
		n.Seq += by
	case 6:
		n.Lo, n.Seq = n.Lo+by, n.Seq+by
	case 7:
		n.X.Val++
	default:
		n.Code = api.Errno(w.number(3) - 1)
	}
	return n
}

// takes lets something be seen.
func (w *world) takes(t *testing.T) {
	if len(w.p.joins) == 0 {
		return
	}
	n := w.fit(w.p.joins[w.g.IntN(len(w.p.joins))])
	// One who leaves, or stops, too soon does nothing any more.
	if (n.Deed == api.Stopped || n.Deed == api.Left) && w.g.IntN(40) > 0 {
		return
	}
	if w.g.IntN(6) == 0 {
		n = w.bent(n)
	}
	want := w.p.take(n)
	if want == 0 {
		w.deeds[n.Deed]++
	}
	w.same(t, n, w.Take(n), want)
}

// asked wants all that may be asked to be as the plain model tells it.
func (w *world) asked(t *testing.T) {
	t.Helper()
	for ring := -1; ring < 4; ring++ {
		there := map[int64]api.Event{}
		if ring >= 0 && ring < len(w.p.logs) {
			there = w.p.published(ring)
		}
		n := int64(0)
		for ; ; n++ {
			if _, ok := there[n]; !ok {
				break
			}
		}
		if got := w.Length(ring); got != n {
			t.Fatal(ring, got, n)
		}
		for _, i := range append([]int64{3, 4, 5, 6, 7, 9}, ends...) {
			x, ok := there[i]
			if got, is := w.Event(ring, i); got != x || is != ok {
				t.Fatal(ring, i, got, is)
			}
			held := ring >= 0 && ring < len(w.p.logs) && w.p.held(ring, i)
			if got := w.Held(ring, i); got != held {
				t.Fatal(ring, i, got)
			}
		}
		for who := -1; who < 8; who++ {
			j, want := w.p.at(who, ring), int64(0)
			reads := j != nil && !j.writes
			if reads {
				want = w.p.cursor(j)
			}
			if got, ok := w.Cursor(who, ring); got != want || ok != reads {
				t.Fatal(who, ring, got, ok, want)
			}
		}
	}
}

// P23.1 to P23.3: whatever is made, sent and seen, what may happen and what is asked is what a plain model tells, which keeps only what happened:
// so what is refused changes nothing.
func TestRuns(t *testing.T) {
	tries, deeds := map[api.Errno]int{}, map[api.Deed]int{}
	for seed := range uint64(500) {
		w := newWorld(seed)
		if seed%4 > 0 {
			w.opens(t)
		}
		for range 300 {
			switch k := w.g.IntN(30); {
			case k == 0, len(w.p.joins) < 4:
				w.joins(t)
			case k < 6:
				w.sends(t)
			default:
				w.takes(t)
			}
		}
		w.asked(t)
		for k, n := range w.tries {
			tries[k] += n
		}
		for k, n := range w.deeds {
			deeds[k] += n
		}
	}
	for _, e := range []api.Errno{0, api.ErrArg, api.ErrNone, api.ErrThere, api.ErrRange, api.ErrForm, api.ErrSize, api.ErrMany, api.ErrFull, api.ErrIdle, api.ErrGating, api.ErrHalted, api.ErrBusy} {
		if tries[e] < 20 && e != api.ErrMany {
			t.Error(e, tries)
		}
	}
	for d := api.Shown; d <= api.Stopped; d++ {
		if deeds[d] < 100 {
			t.Error(d, deeds)
		}
	}
}

// P23.4: what is published stays so, cursors only rise, and who reads by itself has handled all from its start up to its cursor.
func TestStays(t *testing.T) {
	for seed := range uint64(200) {
		w := newWorld(seed + 5000)
		w.opens(t)
		published := map[[2]int64]api.Event{}
		cursors := map[[2]int]int64{}
		for range 100 {
			if w.g.IntN(6) == 0 || len(w.p.joins) < 3 {
				w.joins(t)
			}
			w.sends(t)
			w.takes(t)
			for ring := range w.p.logs {
				for i := range int64(20) {
					x, ok := w.Event(ring, i)
					if was, there := published[[2]int64{int64(ring), i}]; there && (!ok || x != was) {
						t.Fatal(seed, ring, i, was, x, ok)
					}
					if ok {
						published[[2]int64{int64(ring), i}] = x
					}
				}
			}
			for _, j := range w.p.joins {
				if j.writes {
					continue
				}
				has, ok := w.Cursor(j.who, j.ring)
				was, before := cursors[[2]int{j.who, j.ring}]
				if !ok || before && has < was || j.pool == 0 && has >= w.p.next(&j) {
					t.Fatal(seed, j, was, has, ok)
				}
				cursors[[2]int{j.who, j.ring}] = has
			}
		}
	}
}
