package model_test

import (
	"math"
	"noria/api"
	"noria/fault"
	"noria/model"
	"slices"
	"testing"
)

// x and y are two events.
var x, y = api.Event{Key: 7, Val: -3}, api.Event{Key: 7, Val: -2}

// The notes that tests are made of.

func shown(who, ring int, lo, seq int64) api.Note {
	return api.Note{Who: who, Ring: ring, Deed: api.Shown, Lo: lo, Seq: seq}
}

func handled(who, ring int, seq int64, x api.Event) api.Note {
	return api.Note{Who: who, Ring: ring, Deed: api.Handled, Lo: seq, Seq: seq, X: x}
}

func moved(who, ring int, lo, seq int64) api.Note {
	return api.Note{Who: who, Ring: ring, Deed: api.Moved, Lo: lo, Seq: seq}
}

func returned(who, ring int, lo, seq int64) api.Note {
	return api.Note{Who: who, Ring: ring, Deed: api.Returned, Lo: lo, Seq: seq}
}

func failed(who, ring int, code api.Errno) api.Note {
	return api.Note{Who: who, Ring: ring, Deed: api.Returned, Code: code}
}

func late(who, ring int, seq int64) api.Note {
	return api.Note{Who: who, Ring: ring, Deed: api.Late, Seq: seq}
}

func left(who, ring int, seq int64) api.Note {
	return api.Note{Who: who, Ring: ring, Deed: api.Left, Seq: seq}
}

func stopped(who, ring int) api.Note {
	return api.Note{Who: who, Ring: ring, Deed: api.Stopped}
}

// well wants what was done to have no error.
func well(t *testing.T, l ...error) {
	t.Helper()
	for i, e := range l {
		if e != nil {
			t.Fatal(i, e)
		}
	}
}

// wrong wants an error.
func wrong(t *testing.T, e error, want api.Errno) {
	t.Helper()
	if fault.Code(e) != want || want != 0 && e == nil {
		t.Fatal(e, want)
	}
}

// seen wants all notes to happen.
func seen(t *testing.T, m *model.Model, l ...api.Note) {
	t.Helper()
	for i, n := range l {
		if e := m.Take(n); e != nil {
			t.Fatal(i, n, e)
		}
	}
}

// refused wants a note not to happen, by an error, and nothing to be told anew behind it.
func refused(t *testing.T, m *model.Model, want api.Errno, l ...api.Note) {
	t.Helper()
	for _, n := range l {
		was := told(m)
		if e := m.Take(n); fault.Code(e) != want {
			t.Fatal(n, e, want)
		}
		if now := told(m); !slices.Equal(was, now) {
			t.Fatal(n, was, now)
		}
	}
}

// told is what may be asked of a model.
func told(m *model.Model) []int64 {
	var l []int64
	for ring := range 3 {
		l = append(l, m.Length(ring))
		for i := int64(-1); i < 12; i++ {
			e, ok := m.Event(ring, i)
			l = append(l, e.Key, e.Val, one(ok), one(m.Held(ring, i)))
		}
		for who := range 8 {
			c, ok := m.Cursor(who, ring)
			l = append(l, c, one(ok))
		}
	}
	return l
}

// one is 1 for true.
func one(ok bool) int64 {
	if ok {
		return 1
	}
	return 0
}

// logged is a model with a log.
func logged(t *testing.T, size int64, many bool) *model.Model {
	t.Helper()
	m := model.New()
	if id, e := m.Log(size, many); id != 0 || e != nil {
		t.Fatal(id, e)
	}
	return m
}

// P23.2: the chapter's example.
func TestExample(t *testing.T) {
	m := logged(t, 2, false)
	well(t, m.Writer(0, 0), m.Reader(1, 0, 0), m.Send(0, x))
	seen(t, m, shown(0, 0, 0, 0), returned(0, 0, 0, 0), handled(1, 0, 0, x), moved(1, 0, 0, 0))
	refused(t, m, api.ErrArg, handled(1, 0, 0, x))
}

// R1, P23.3: of nil, and of logs that aren't there, all is 0, none, false; each call that answers an error is ErrNil of nil.
func TestNil(t *testing.T) {
	var m *model.Model
	id, e := m.Log(2, true)
	if wrong(t, e, api.ErrNil); id != 0 {
		t.Error(id)
	}
	wrong(t, m.Writer(0, 0), api.ErrNil)
	wrong(t, m.Reader(0, 9, -1, 3), api.ErrNil)
	wrong(t, m.Pool(9, -1, nil), api.ErrNil)
	wrong(t, m.Send(0), api.ErrNil)
	wrong(t, m.Take(api.Note{}), api.ErrNil)
	for _, m := range []*model.Model{nil, model.New(), {}} {
		for _, i := range []int{math.MinInt, -1, 0, 1, 8, math.MaxInt} {
			_, ok := m.Event(i, 0)
			c, is := m.Cursor(0, i)
			if m.Length(i) != 0 || ok || c != 0 || is || m.Held(i, math.MaxInt64) || m.Held(i, 0) {
				t.Error(i)
			}
		}
		for _, d := range []api.Deed{math.MinInt, -1, 0, 1, 2, 3, 4, 5, 6, 7, 8, math.MaxInt} {
			if m.Take(api.Note{Deed: d}) == nil {
				t.Error(d)
			}
		}
	}
	// A zero one does no worse than a new one.
	var z model.Model
	if id, e := z.Log(2, false); id != 0 || e != nil {
		t.Error(id, e)
	}
	well(t, z.Writer(0, 0), z.Reader(1, 0, 0), z.Send(0, x), z.Take(shown(0, 0, 0, 0)))
}

// P23.1: a log's number is how many there were; ErrSize ahead of ErrMany.
func TestLog(t *testing.T) {
	m := model.New()
	sizes := []int64{1, 2, 3, 1 << 19, 1<<20 - 1, 1 << 20, 7, 8}
	for i, size := range sizes {
		for _, bad := range []int64{0, -1, math.MinInt64, 1<<20 + 1, math.MaxInt64} {
			id, e := m.Log(bad, i%2 == 0)
			if wrong(t, e, api.ErrSize); id != 0 {
				t.Fatal(id)
			}
		}
		if id, e := m.Log(size, i%2 == 0); id != i || e != nil {
			t.Fatal(id, e)
		}
	}
	id, e := m.Log(2, true)
	if wrong(t, e, api.ErrMany); id != 0 {
		t.Fatal(id)
	}
	_, e = m.Log(0, true)
	wrong(t, e, api.ErrSize)
	well(t, m.Writer(0, 7))
	wrong(t, m.Writer(1, 8), api.ErrNone)
	// Each has its own size, and its own kind.
	for id, size := range sizes {
		well(t, m.Reader(50+id, id, 0))
		if m.Held(id, size-1) || !m.Held(id, size) {
			t.Fatal(id)
		}
	}
	well(t, m.Writer(20, 2), m.Writer(21, 3), m.Send(20, x), m.Send(21, x))
	seen(t, m, shown(20, 2, 2, 2))
	refused(t, m, api.ErrGating, shown(21, 3, 2, 2))
}

// P23.1: who writes may neither write nor read anything else; who reads may read other logs.
func TestWriter(t *testing.T) {
	m := logged(t, 2, false)
	m.Log(2, true)
	for _, ring := range []int{-1, 2, 8, math.MinInt, math.MaxInt} {
		wrong(t, m.Writer(0, ring), api.ErrNone)
		wrong(t, m.Reader(0, ring, -1, 5), api.ErrNone)
		wrong(t, m.Pool(ring, -1, nil), api.ErrNone)
	}
	well(t, m.Writer(0, 0), m.Reader(1, 0, 0), m.Pool(0, 0, []int{2}))
	for _, ring := range []int{0, 1} {
		wrong(t, m.Writer(0, ring), api.ErrThere)
		wrong(t, m.Writer(1, ring), api.ErrThere)
		wrong(t, m.Writer(2, ring), api.ErrThere)
		wrong(t, m.Reader(0, ring, 0), api.ErrThere)
		wrong(t, m.Pool(ring, 0, []int{3, 0}), api.ErrThere)
	}
	wrong(t, m.Reader(1, 0, 0), api.ErrThere)
	wrong(t, m.Reader(2, 0, 0), api.ErrThere)
	wrong(t, m.Pool(0, 0, []int{3, 1}), api.ErrThere)
	wrong(t, m.Pool(0, 0, []int{3, 2}), api.ErrThere)
	well(t, m.Reader(1, 1, 5), m.Pool(1, 3, []int{2, 9}))
	// Who wasn't let in isn't there; more may write, whatever their numbers.
	well(t, m.Reader(3, 0, 0), m.Writer(math.MinInt, 0), m.Writer(math.MaxInt, 0), m.Reader(-1, 0, 0))
	if c, ok := m.Cursor(-1, 0); c != -1 || !ok {
		t.Error(c, ok)
	}
	if _, ok := m.Cursor(0, 0); ok {
		t.Error("one who writes has a cursor")
	}
}

// P23.1: a reader begins from 0 to MaxSeq, behind those who read the log; its cursor is one less than its start.
func TestReader(t *testing.T) {
	m := logged(t, 2, false)
	m.Log(2, true)
	well(t, m.Writer(0, 0), m.Reader(1, 1, 0))
	for _, start := range []int64{-1, math.MinInt64, api.MaxSeq + 1, math.MaxInt64} {
		wrong(t, m.Reader(1, 0, start), api.ErrRange)
		wrong(t, m.Reader(1, 0, start, 7), api.ErrRange)
		wrong(t, m.Reader(0, 0, start, 7), api.ErrThere)
		wrong(t, m.Pool(0, start, []int{0, 0}, 7), api.ErrRange)
		wrong(t, m.Pool(0, start, nil, 7), api.ErrArg)
	}
	for _, ahead := range [][]int{{0}, {1}, {2}, {7}, {-1}} {
		wrong(t, m.Reader(2, 0, 0, ahead...), api.ErrNone)
		wrong(t, m.Reader(0, 0, 0, ahead...), api.ErrThere)
		wrong(t, m.Pool(0, 0, []int{2, 3}, ahead...), api.ErrNone)
		wrong(t, m.Pool(0, 0, []int{2, 2}, ahead...), api.ErrThere)
		wrong(t, m.Pool(0, 0, []int{0}, ahead...), api.ErrThere)
	}
	well(t, m.Reader(2, 0, api.MaxSeq), m.Reader(3, 0, 5, 2), m.Pool(0, api.MaxSeq, []int{4, 5}, 3, 2, 3), m.Pool(0, 3, []int{6}, 5, 4))
	wrong(t, m.Reader(7, 0, 0, 2, 3, 8), api.ErrNone)
	wrong(t, m.Reader(7, 0, 0, 7), api.ErrNone)
	wrong(t, m.Pool(0, 0, []int{7, 8}, 8), api.ErrNone)
	for who, want := range map[int]int64{2: api.MaxSeq - 1, 3: 4, 4: api.MaxSeq - 1, 5: api.MaxSeq - 1, 6: 2} {
		if c, ok := m.Cursor(who, 0); c != want || !ok {
			t.Error(who, c, ok)
		}
		if c, ok := m.Cursor(who, 1); c != 0 || ok {
			t.Error(who, c, ok)
		}
	}
}

// many are so many actors, from one on.
func many(from, n int) []int {
	var l []int
	for i := range n {
		l = append(l, from+i)
	}
	return l
}

// P23.1: there are at most 512 writers and readers; ErrMany behind ErrNone alone.
func TestMany(t *testing.T) {
	m := logged(t, 2, true)
	m.Log(2, true)
	wrong(t, m.Pool(0, 0, nil), api.ErrArg)
	wrong(t, m.Pool(0, 0, many(0, 17)), api.ErrArg)
	wrong(t, m.Pool(0, 0, []int{0, 1, 2, 0}), api.ErrThere)
	well(t, m.Pool(0, 0, many(0, 16)), m.Pool(1, 0, many(0, 16)))
	for who := 16; who < 200; who++ {
		well(t, m.Reader(who, 0, 0), m.Reader(who, 1, 0))
	}
	for who := 200; who < 296; who++ {
		well(t, m.Writer(who, 0))
	}
	// 16 more may come.
	wrong(t, m.Pool(0, 0, many(300, 17)), api.ErrArg)
	well(t, m.Writer(296, 1))
	wrong(t, m.Pool(0, 0, many(300, 17)), api.ErrMany)
	wrong(t, m.Pool(0, 0, many(300, 1000)), api.ErrMany)
	wrong(t, m.Pool(0, 0, many(300, 16)), api.ErrMany)
	wrong(t, m.Pool(2, 0, many(300, 16)), api.ErrNone)
	well(t, m.Pool(0, 0, many(300, 14)))
	wrong(t, m.Pool(0, -1, []int{0, 0}, 777), api.ErrMany)
	wrong(t, m.Pool(0, -1, nil, 777), api.ErrArg)
	well(t, m.Reader(400, 0, 0))
	wrong(t, m.Pool(0, -1, []int{0}, 777), api.ErrMany)
	wrong(t, m.Writer(0, 0), api.ErrMany)
	wrong(t, m.Writer(0, 2), api.ErrNone)
	wrong(t, m.Reader(0, 0, -1, 777), api.ErrMany)
	wrong(t, m.Pool(0, -1, nil, 777), api.ErrArg)
	if _, ok := m.Cursor(401, 0); ok {
		t.Error("one who wasn't let in is there")
	}
}

// P23.1: a call has 1 to MaxBatch events, and is done behind those that came ahead of it.
func TestSend(t *testing.T) {
	m := logged(t, 64, false)
	well(t, m.Writer(0, 0), m.Reader(1, 0, 0))
	for _, who := range []int{1, 2, -1} {
		wrong(t, m.Send(who, x), api.ErrNone)
		wrong(t, m.Send(who), api.ErrNone)
	}
	wrong(t, m.Send(0), api.ErrArg)
	wrong(t, m.Send(0, make([]api.Event, 65)...), api.ErrArg)
	refused(t, m, api.ErrIdle, shown(0, 0, 0, 0))
	l := make([]api.Event, 64)
	for i := range l {
		l[i].Key = int64(i)
	}
	well(t, m.Send(0, l...), m.Send(0, x, y))
	clear(l)
	seen(t, m, shown(0, 0, 0, 63), returned(0, 0, 0, 63))
	for i := range int64(64) {
		if e, ok := m.Event(0, i); e.Key != i || !ok {
			t.Fatal(i, e, ok)
		}
	}
	refused(t, m, api.ErrFull, shown(0, 0, 64, 65))
	seen(t, m, handled(1, 0, 0, api.Event{}), handled(1, 0, 1, api.Event{Key: 1}), moved(1, 0, 0, 1), shown(0, 0, 64, 65), returned(0, 0, 64, 65))
	refused(t, m, api.ErrIdle, returned(0, 0, 64, 65), shown(0, 0, 66, 66))
	if e, _ := m.Event(0, 65); e != y || m.Length(0) != 66 {
		t.Error(e)
	}
	// Who has stopped may have a call more, of which nothing happens.
	seen(t, m, stopped(0, 0))
	well(t, m.Send(0, x))
	refused(t, m, api.ErrHalted, shown(0, 0, 66, 66), failed(0, 0, 10), stopped(0, 0), left(0, 0, 0))
}

// P23.2: who neither writes nor reads a log does nothing there that may be seen.
func TestNobody(t *testing.T) {
	m := logged(t, 2, true)
	m.Log(2, false)
	well(t, m.Writer(0, 0), m.Reader(1, 1, 0), m.Send(0, x))
	for d := api.Deed(-1); d < 9; d++ {
		for _, n := range []api.Note{{Who: 2}, {Who: -1}, {Who: 0, Ring: 1}, {Who: 1, Ring: 0}, {Who: 0, Ring: 2}, {Who: 0, Ring: -1}, {Who: 1, Ring: 8}} {
			n.Deed = d
			refused(t, m, api.ErrNone, n)
		}
	}
}

// P23.2: what a writer of a log of one publishes: all of its call at once, one behind the other, with room; what is wrong first is told.
func TestShownOne(t *testing.T) {
	m := logged(t, 4, false)
	well(t, m.Writer(0, 0), m.Reader(1, 0, 0))
	refused(t, m, api.ErrIdle, shown(0, 0, -1, 0), shown(0, 0, 0, 0), returned(0, 0, 0, 0), failed(0, 0, 10))
	refused(t, m, api.ErrArg, handled(0, 0, 0, x), moved(0, 0, 0, 0), late(0, 0, 0), left(0, 0, -1), api.Note{}, api.Note{Deed: 8}, api.Note{Deed: -1})
	well(t, m.Send(0, x, y), m.Send(0, y), m.Send(0, x, x, x))
	refused(t, m, api.ErrArg, api.Note{}, left(0, 0, 0), handled(0, 0, 0, x))
	refused(t, m, api.ErrBusy, stopped(0, 0))
	refused(t, m, api.ErrRange, shown(0, 0, -1, 0), shown(0, 0, 1, 0), shown(0, 0, 0, api.MaxSeq+1), shown(0, 0, math.MinInt64, math.MaxInt64), shown(0, 0, math.MaxInt64, math.MaxInt64), shown(0, 0, 0, math.MinInt64))
	refused(t, m, api.ErrArg, shown(0, 0, 0, 0), shown(0, 0, 0, 2), shown(0, 0, 0, api.MaxSeq), shown(0, 0, 9, 9), shown(0, 0, api.MaxSeq, api.MaxSeq))
	refused(t, m, api.ErrGating, shown(0, 0, 1, 2), shown(0, 0, 7, 8), shown(0, 0, api.MaxSeq-1, api.MaxSeq))
	refused(t, m, api.ErrArg, returned(0, 0, 0, 1), returned(0, 0, 0, 0))
	seen(t, m, shown(0, 0, 0, 1))
	if e, ok := m.Event(0, 1); e != y || !ok || m.Length(0) != 2 {
		t.Fatal(e, ok)
	}
	refused(t, m, api.ErrArg, shown(0, 0, 2, 2), shown(0, 0, 2, 3), shown(0, 0, 0, 1))
	refused(t, m, api.ErrBusy, failed(0, 0, 10), failed(0, 0, -1), api.Note{Deed: api.Returned, Seq: 1, Code: 1}, stopped(0, 0))
	refused(t, m, api.ErrArg, returned(0, 0, 0, 0), returned(0, 0, 1, 1), returned(0, 0, 0, 2), returned(0, 0, -1, 1))
	seen(t, m, returned(0, 0, 0, 1))
	refused(t, m, api.ErrGating, shown(0, 0, 0, 0), shown(0, 0, 1, 1), shown(0, 0, 3, 3))
	seen(t, m, shown(0, 0, 2, 2), returned(0, 0, 2, 2))
	refused(t, m, api.ErrGating, shown(0, 0, 2, 4))
	refused(t, m, api.ErrFull, shown(0, 0, 3, 5))
	seen(t, m, handled(1, 0, 0, x), moved(1, 0, 0, 0))
	refused(t, m, api.ErrFull, shown(0, 0, 3, 5))
	seen(t, m, handled(1, 0, 1, y), moved(1, 0, 1, 1), shown(0, 0, 3, 5), returned(0, 0, 3, 5), stopped(0, 0))
	refused(t, m, api.ErrHalted, stopped(0, 0), shown(0, 0, 6, 6), api.Note{}, left(0, 0, 1))
}

// P23.2: what a writer of a log of many publishes: index by index, not far above what is, none that is, with room.
func TestShownMany(t *testing.T) {
	m := logged(t, 4, true)
	well(t, m.Writer(0, 0), m.Writer(1, 0), m.Reader(2, 0, 0), m.Send(0, x, y), m.Send(1, y))
	refused(t, m, api.ErrRange, shown(0, 0, -1, -1), shown(0, 0, 0, -1), shown(0, 0, api.MaxSeq+1, api.MaxSeq+1), shown(0, 0, 0, api.MaxSeq+1))
	refused(t, m, api.ErrArg, shown(0, 0, 0, 1), shown(0, 0, 0, 7), shown(0, 0, 0, api.MaxSeq))
	refused(t, m, api.ErrGating, shown(0, 0, 8193, 8193), shown(0, 0, api.MaxSeq, api.MaxSeq))
	refused(t, m, api.ErrFull, shown(0, 0, 8192, 8192), shown(0, 0, 4, 4))
	seen(t, m, shown(0, 0, 1, 1))
	if _, ok := m.Event(0, 0); ok || m.Length(0) != 0 {
		t.Fatal("index 0 is there")
	}
	refused(t, m, api.ErrArg, shown(0, 0, 0, 0), shown(0, 0, 1, 1), shown(0, 0, 3, 3), shown(0, 0, 2, 3), returned(0, 0, 1, 1), returned(0, 0, 1, 2))
	refused(t, m, api.ErrThere, shown(1, 0, 1, 1))
	refused(t, m, api.ErrBusy, failed(0, 0, 10), stopped(1, 0))
	seen(t, m, shown(0, 0, 2, 2), shown(1, 0, 0, 0))
	refused(t, m, api.ErrBusy, failed(1, 0, 15), failed(0, 0, 15))
	seen(t, m, returned(0, 0, 1, 2), returned(1, 0, 0, 0), stopped(0, 0))
	for i, want := range []api.Event{y, x, y} {
		if e, ok := m.Event(0, int64(i)); e != want || !ok || m.Length(0) != 3 {
			t.Fatal(i, e, ok)
		}
	}
	refused(t, m, api.ErrIdle, failed(1, 0, 10))
	refused(t, m, api.ErrHalted, shown(0, 0, 3, 3))
}

// P23.2: an index of a log of many may be 8193 above the greatest that is published, and no more; a gap may be filled.
func TestFar(t *testing.T) {
	m := logged(t, 1<<20, true)
	well(t, m.Writer(0, 0), m.Send(0, x), m.Send(0, x), m.Send(0, x), m.Send(0, y))
	refused(t, m, api.ErrGating, shown(0, 0, 8193, 8193))
	seen(t, m, shown(0, 0, 8192, 8192), returned(0, 0, 8192, 8192))
	refused(t, m, api.ErrGating, shown(0, 0, 16386, 16386))
	refused(t, m, api.ErrThere, shown(0, 0, 8192, 8192))
	seen(t, m, shown(0, 0, 16385, 16385), returned(0, 0, 16385, 16385), shown(0, 0, 1, 1), returned(0, 0, 1, 1))
	refused(t, m, api.ErrGating, shown(0, 0, 24579, 24579))
	if m.Length(0) != 0 {
		t.Fatal(m.Length(0))
	}
	seen(t, m, shown(0, 0, 0, 0))
	// A gap that was filled doesn't bring the greatest one down.
	well(t, m.Send(0, x))
	seen(t, m, returned(0, 0, 0, 0), shown(0, 0, 24578, 24578))
	if e, ok := m.Event(0, 16385); m.Length(0) != 2 || e != x || !ok {
		t.Fatal(m.Length(0), e, ok)
	}
}

// P23.2: a call that ended by an error, of which nothing was published, leaves nothing; the next one goes on.
func TestFailed(t *testing.T) {
	for _, many := range []bool{false, true} {
		m := logged(t, 2, many)
		well(t, m.Writer(0, 0), m.Send(0, x), m.Send(0, y))
		seen(t, m, failed(0, 0, api.ErrFull), shown(0, 0, 0, 0), returned(0, 0, 0, 0))
		if e, _ := m.Event(0, 0); e != y {
			t.Fatal(e)
		}
		well(t, m.Send(0, x))
		seen(t, m, api.Note{Deed: api.Returned, Lo: 5, Seq: 3, Code: -9}, stopped(0, 0))
	}
}

// read is a log of four with events, one who reads by itself, a pool of two from 1 on, and readers behind them.
func read(t *testing.T) *model.Model {
	t.Helper()
	m := logged(t, 8, false)
	m.Log(2, true)
	well(t, m.Writer(0, 0), m.Reader(1, 0, 0), m.Pool(0, 1, []int{2, 3}), m.Reader(4, 0, 0, 1), m.Reader(5, 0, 0, 3), m.Pool(0, 0, []int{6, 7}, 1, 2))
	well(t, m.Send(0, x, y, x, y))
	seen(t, m, shown(0, 0, 0, 3), returned(0, 0, 0, 3))
	return m
}

// P23.2: a reader handles what is published, as it was sent, one behind the other; what is wrong first is told.
func TestHandled(t *testing.T) {
	m := read(t)
	refused(t, m, api.ErrNone, handled(1, 0, 4, x), handled(1, 0, -1, x), handled(1, 0, math.MaxInt64, x), handled(1, 0, math.MinInt64, x),
		api.Note{Who: 1, Deed: api.Handled, Lo: 1, Seq: 0, X: x}, api.Note{Who: 1, Deed: api.Handled, Lo: 0, Seq: 1, X: y})
	refused(t, m, api.ErrForm, handled(1, 0, 0, y), handled(1, 0, 0, api.Event{Key: 6, Val: -3}), handled(1, 0, 1, x), handled(4, 0, 0, y), handled(2, 0, 0, y))
	refused(t, m, api.ErrArg, handled(1, 0, 1, y), handled(1, 0, 3, y))
	refused(t, m, api.ErrGating, handled(4, 0, 0, x), handled(4, 0, 2, x), handled(6, 0, 0, x))
	seen(t, m, handled(1, 0, 0, x))
	refused(t, m, api.ErrArg, handled(1, 0, 0, x), handled(1, 0, 2, x))
	refused(t, m, api.ErrGating, handled(4, 0, 0, x))
	seen(t, m, moved(1, 0, 0, 0), handled(4, 0, 0, x), handled(1, 0, 1, y), handled(1, 0, 2, x), moved(1, 0, 1, 2))
	refused(t, m, api.ErrGating, handled(4, 0, 3, y))
	refused(t, m, api.ErrArg, handled(4, 0, 2, x))
}

// P23.2: those of a pool share: no index twice, none ahead of their start, in whatever order; who is behind a pool waits till one of it has handled.
func TestHandledPool(t *testing.T) {
	m := read(t)
	refused(t, m, api.ErrThere, handled(2, 0, 0, x), handled(3, 0, 0, x))
	// Ahead of the pool's start nobody waits for it.
	seen(t, m, handled(5, 0, 0, x))
	refused(t, m, api.ErrGating, handled(5, 0, 1, y), handled(5, 0, 3, y))
	seen(t, m, handled(2, 0, 2, x))
	refused(t, m, api.ErrThere, handled(2, 0, 2, x), handled(3, 0, 2, x))
	refused(t, m, api.ErrGating, handled(5, 0, 1, y))
	refused(t, m, api.ErrArg, handled(5, 0, 2, x))
	seen(t, m, handled(3, 0, 1, y), handled(5, 0, 1, y), handled(5, 0, 2, x))
	refused(t, m, api.ErrThere, handled(2, 0, 1, y), handled(3, 0, 2, x))
	// Behind both: the one who reads by itself must be done with it, and one of the pool must have handled it.
	refused(t, m, api.ErrGating, handled(6, 0, 1, y), handled(6, 0, 0, x))
	seen(t, m, handled(1, 0, 0, x), handled(1, 0, 1, y), handled(1, 0, 2, x), handled(1, 0, 3, y))
	refused(t, m, api.ErrGating, handled(6, 0, 1, y))
	seen(t, m, moved(1, 0, 0, 3), handled(7, 0, 1, y), handled(6, 0, 0, x))
	refused(t, m, api.ErrGating, handled(7, 0, 3, y))
	seen(t, m, handled(2, 0, 3, y), handled(7, 0, 3, y), handled(6, 0, 2, x))
	refused(t, m, api.ErrThere, handled(6, 0, 0, x), handled(6, 0, 1, y), handled(7, 0, 2, x), handled(7, 0, 3, y))
	refused(t, m, api.ErrForm, handled(7, 0, 3, x))
}

// P23.2: who reads by itself is done with just what it handled since it was last; one of a pool with whatever is published.
func TestMoved(t *testing.T) {
	m := read(t)
	refused(t, m, api.ErrArg, moved(1, 0, 0, 0), moved(1, 0, 0, -1), moved(1, 0, 0, 4), moved(1, 0, -1, -1))
	seen(t, m, handled(1, 0, 0, x), handled(1, 0, 1, y))
	refused(t, m, api.ErrArg, moved(1, 0, 0, 0), moved(1, 0, 0, 2), moved(1, 0, 1, 1), moved(1, 0, -1, 1), moved(1, 0, math.MinInt64, 1), moved(1, 0, 0, math.MinInt64), moved(1, 0, math.MaxInt64, 1))
	seen(t, m, moved(1, 0, 0, 1))
	refused(t, m, api.ErrArg, moved(1, 0, 0, 1), moved(1, 0, 2, 1), moved(1, 0, 2, 2))
	if c, ok := m.Cursor(1, 0); c != 1 || !ok {
		t.Fatal(c, ok)
	}
	refused(t, m, api.ErrArg, moved(2, 0, 0, 1), moved(2, 0, 2, 3), moved(2, 0, 1, 0))
	refused(t, m, api.ErrNone, moved(2, 0, 1, 4), moved(2, 0, 1, math.MaxInt64))
	seen(t, m, moved(2, 0, 1, 2))
	refused(t, m, api.ErrArg, moved(2, 0, 3, 2), moved(2, 0, 2, 3))
	seen(t, m, moved(2, 0, 3, 3), moved(3, 0, 1, 3))
	if c, _ := m.Cursor(2, 0); c != 3 {
		t.Fatal(c)
	}
}

// P23.2: a call of one who asks ends well with all that it handled since the last one ended, by an error with nothing; one of a pool has no calls.
func TestReturned(t *testing.T) {
	m := read(t)
	refused(t, m, api.ErrArg, returned(1, 0, 0, -1), returned(1, 0, 0, 0), returned(1, 0, 1, 1))
	seen(t, m, failed(1, 0, api.ErrIdle), failed(1, 0, -1), api.Note{Who: 1, Deed: api.Returned, Lo: 9, Seq: 9, Code: 12})
	seen(t, m, handled(1, 0, 0, x))
	refused(t, m, api.ErrBusy, failed(1, 0, api.ErrIdle), api.Note{Who: 1, Deed: api.Returned, Lo: 0, Seq: 0, Code: 1})
	refused(t, m, api.ErrArg, returned(1, 0, 0, 0))
	seen(t, m, moved(1, 0, 0, 0), handled(1, 0, 1, y))
	refused(t, m, api.ErrArg, returned(1, 0, 0, 1), returned(1, 0, 0, 0))
	seen(t, m, moved(1, 0, 1, 1))
	refused(t, m, api.ErrBusy, failed(1, 0, api.ErrIdle))
	refused(t, m, api.ErrArg, returned(1, 0, 1, 1), returned(1, 0, 0, 0), returned(1, 0, 0, 2), returned(1, 0, -1, 1))
	seen(t, m, returned(1, 0, 0, 1), failed(1, 0, 3))
	refused(t, m, api.ErrArg, returned(1, 0, 0, 1), returned(1, 0, 2, 1), returned(1, 0, 2, 2))
	seen(t, m, handled(1, 0, 2, x), moved(1, 0, 2, 2), returned(1, 0, 2, 2))
	refused(t, m, api.ErrArg, failed(2, 0, 10), returned(2, 0, 1, 1))
	seen(t, m, handled(2, 0, 1, y), moved(2, 0, 1, 1))
	refused(t, m, api.ErrArg, failed(2, 0, 10), returned(2, 0, 1, 1))
}

// P23.2: one leaves once, with what it is done with, and then holds nobody back; when it has stopped, too.
func TestLeft(t *testing.T) {
	m := read(t)
	refused(t, m, api.ErrArg, left(1, 0, 0), left(1, 0, -2), left(1, 0, math.MaxInt64), left(2, 0, -1), left(2, 0, 1))
	for _, who := range []int{2, 3, 4, 5, 6, 7} {
		c, _ := m.Cursor(who, 0)
		seen(t, m, left(who, 0, c))
		refused(t, m, api.ErrArg, left(who, 0, c))
	}
	if m.Held(0, 7) || !m.Held(0, 8) {
		t.Fatal("who hasn't left holds back what is a size ahead")
	}
	seen(t, m, handled(1, 0, 0, x), moved(1, 0, 0, 0), stopped(1, 0))
	if m.Held(0, 8) || !m.Held(0, 9) {
		t.Fatal("who has stopped still holds back")
	}
	refused(t, m, api.ErrHalted, stopped(1, 0), handled(1, 0, 1, y), late(1, 0, 5), failed(1, 0, 3), api.Note{Who: 1}, api.Note{Who: 1, Deed: 8})
	refused(t, m, api.ErrArg, left(1, 0, 1), left(1, 0, -1))
	seen(t, m, left(1, 0, 0))
	refused(t, m, api.ErrArg, left(1, 0, 0))
	if m.Held(0, 9) || m.Held(0, math.MaxInt64) {
		t.Fatal("who has left holds back")
	}
	// Its cursor stays, for those behind it.
	if c, ok := m.Cursor(1, 0); c != 0 || !ok {
		t.Fatal(c, ok)
	}
	seen(t, m, handled(4, 0, 0, x))
	refused(t, m, api.ErrGating, handled(4, 0, 1, y))
}

// P23.2: one is late only for what is above its cursor; that changes nothing.
func TestLate(t *testing.T) {
	m := read(t)
	refused(t, m, api.ErrArg, late(1, 0, -1), late(1, 0, math.MinInt64), late(2, 0, 0))
	was := told(m)
	seen(t, m, late(1, 0, 0), late(1, 0, math.MaxInt64), late(2, 0, 1), handled(1, 0, 0, x), late(1, 0, 0), moved(1, 0, 0, 0))
	refused(t, m, api.ErrArg, late(1, 0, 0))
	seen(t, m, late(1, 0, 1), handled(1, 0, 1, y))
	if now := told(read(t)); !slices.Equal(was, now) {
		t.Error(was, now)
	}
}

// P23.2: who has stopped has stopped at all logs, at those too that it reads later; a deed that is none may not happen.
func TestStopped(t *testing.T) {
	m := read(t)
	for d := api.Deed(-1); d < 9; d++ {
		if d <= api.Shown || d > api.Stopped {
			refused(t, m, api.ErrArg, api.Note{Who: 1, Deed: d}, api.Note{Who: 2, Deed: d})
		}
	}
	well(t, m.Reader(1, 1, 3))
	seen(t, m, late(1, 1, 3), api.Note{Who: 1, Deed: api.Stopped, Lo: 9, Seq: -9, Code: 3})
	refused(t, m, api.ErrHalted, late(1, 1, 3), stopped(1, 1), stopped(1, 0), failed(1, 1, 11))
	refused(t, m, api.ErrArg, left(1, 1, 3))
	seen(t, m, left(1, 1, 2))
	well(t, m.Reader(2, 1, 0))
	seen(t, m, stopped(2, 0))
	refused(t, m, api.ErrHalted, late(2, 1, 3))
	m.Log(4, true)
	well(t, m.Pool(2, 0, []int{2, 1}))
	refused(t, m, api.ErrHalted, late(2, 2, 3), late(1, 2, 3))
	seen(t, m, left(1, 2, -1), late(3, 0, 5))
}

// P23.3: an index is held as long as one who hasn't left is more than a size behind it; those ahead of 0 aren't.
func TestHeld(t *testing.T) {
	m := logged(t, 4, false)
	if m.Held(0, 4) || m.Held(0, math.MaxInt64) {
		t.Fatal("nobody holds back")
	}
	well(t, m.Writer(0, 0), m.Reader(1, 0, 2), m.Reader(2, 0, api.MaxSeq), m.Pool(0, 9, []int{3}))
	for i, want := range map[int64]bool{math.MinInt64: false, -1: false, 0: false, 5: false, 6: true, 7: true, api.MaxSeq: true, math.MaxInt64: true} {
		if m.Held(0, i) != want {
			t.Error(i, !want)
		}
	}
	seen(t, m, left(1, 0, 1))
	if m.Held(0, 12) || !m.Held(0, 13) {
		t.Error("one of a pool holds back")
	}
	seen(t, m, left(3, 0, 8))
	if m.Held(0, api.MaxSeq+3) || !m.Held(0, api.MaxSeq+4) {
		t.Error("who began at the end holds back")
	}
}

// R3: what is handed in, with the room behind its end, isn't changed and not kept.
func TestOwn(t *testing.T) {
	m := logged(t, 4, false)
	well(t, m.Writer(0, 0), m.Reader(1, 0, 0), m.Reader(8, 0, 0))
	who, ahead, l := []int{2, 3, 77}, []int{1, 8, 88}, []api.Event{x, y, {Key: 99}}
	well(t, m.Pool(0, 0, who[:2], ahead[:2]...), m.Reader(4, 0, 0, ahead[:1]...), m.Send(0, l[:2]...))
	if !slices.Equal(who, []int{2, 3, 77}) || !slices.Equal(ahead, []int{1, 8, 88}) || !slices.Equal(l, []api.Event{x, y, {Key: 99}}) {
		t.Fatal(who, ahead, l)
	}
	clear(who)
	clear(ahead)
	clear(l)
	seen(t, m, shown(0, 0, 0, 1), handled(8, 0, 0, x), moved(8, 0, 0, 0))
	refused(t, m, api.ErrGating, handled(3, 0, 0, x), handled(4, 0, 0, x))
	seen(t, m, handled(1, 0, 0, x), moved(1, 0, 0, 0), handled(3, 0, 0, x), handled(4, 0, 0, x))
}
