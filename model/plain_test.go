package model_test

import (
	"noria/api"
	"slices"
)

// plain is a model that keeps what happened, and tells all else anew from that, each time that it is asked.
type plain struct {
	logs  []plainLog
	joins []join
	sends []sending
	seen  []api.Note
	pools int
}

type plainLog struct {
	size int64
	many bool
}

// join is an actor at a log; its pool is a number from 1 on, 0: it has none.
type join struct {
	who, ring, pool int
	writes          bool
	start           int64
	ahead           []int
}

type sending struct {
	who int
	l   []api.Event
}

// call is what of a writer's calls goes on: its events, and which indexes of them are published.
type call struct {
	events []api.Event
	shown  []int64
}

func (p *plain) at(who, ring int) *join {
	for i := range p.joins {
		if p.joins[i].who == who && p.joins[i].ring == ring {
			return &p.joins[i]
		}
	}
	return nil
}

func (p *plain) writes(who int) bool {
	return slices.ContainsFunc(p.joins, func(j join) bool { return j.who == who && j.writes })
}

func (p *plain) there(who int) bool {
	return slices.ContainsFunc(p.joins, func(j join) bool { return j.who == who })
}

// did are the notes of a deed of one at a ring.
func (p *plain) did(who, ring int, d api.Deed) []api.Note {
	var out []api.Note
	for _, n := range p.seen {
		if n.Who == who && n.Ring == ring && n.Deed == d {
			out = append(out, n)
		}
	}
	return out
}

func (p *plain) stopped(who int) bool {
	return slices.ContainsFunc(p.seen, func(n api.Note) bool { return n.Who == who && n.Deed == api.Stopped })
}

// calls are all calls of a writer, with what of them is published; and how many have ended.
func (p *plain) calls(who int) ([]call, int) {
	var l []call
	for _, s := range p.sends {
		if s.who == who {
			l = append(l, call{events: s.l})
		}
	}
	ended := 0
	for _, n := range p.seen {
		if n.Who == who && n.Deed == api.Returned {
			ended++
		}
		if n.Who == who && n.Deed == api.Shown {
			for i := n.Lo; i <= n.Seq; i++ {
				l[ended].shown = append(l[ended].shown, i)
			}
		}
	}
	return l, ended
}

// published are the events of a log by their indexes.
func (p *plain) published(ring int) map[int64]api.Event {
	out := map[int64]api.Event{}
	for _, j := range p.joins {
		if !j.writes || j.ring != ring {
			continue
		}
		l, _ := p.calls(j.who)
		for _, c := range l {
			for k, i := range c.shown {
				out[i] = c.events[k]
			}
		}
	}
	return out
}

func (p *plain) cursor(j *join) int64 {
	if l := p.did(j.who, j.ring, api.Moved); len(l) > 0 {
		return l[len(l)-1].Seq
	}
	return j.start - 1
}

func (p *plain) next(j *join) int64 {
	return j.start + int64(len(p.did(j.who, j.ring, api.Handled)))
}

// since is what its next index was when its last call ended.
func (p *plain) since(j *join) int64 {
	next, since := j.start, j.start
	for _, n := range p.seen {
		if n.Who == j.who && n.Ring == j.ring && n.Deed == api.Handled {
			next++
		}
		if n.Who == j.who && n.Ring == j.ring && n.Deed == api.Returned {
			since = next
		}
	}
	return since
}

// shared says whether one of a pool has handled an index.
func (p *plain) shared(pool int, i int64) bool {
	for _, j := range p.joins {
		for _, n := range p.did(j.who, j.ring, api.Handled) {
			if j.pool == pool && n.Seq == i {
				return true
			}
		}
	}
	return false
}

func (p *plain) held(ring int, i int64) bool {
	for _, j := range p.joins {
		if !j.writes && j.ring == ring && len(p.did(j.who, ring, api.Left)) == 0 && i >= 0 && p.cursor(&j) < i-p.logs[ring].size {
			return true
		}
	}
	return false
}

// make is a log more.
func (p *plain) log(size int64, many bool) (int, api.Errno) {
	if size < 1 || size > 1<<20 {
		return 0, api.ErrSize
	}
	if len(p.logs) == 8 {
		return 0, api.ErrMany
	}
	p.logs = append(p.logs, plainLog{size, many})
	return len(p.logs) - 1, 0
}

func (p *plain) open(ring, more int) api.Errno {
	if ring < 0 || ring >= len(p.logs) {
		return api.ErrNone
	}
	if len(p.joins)+more > 512 {
		return api.ErrMany
	}
	return 0
}

func (p *plain) writer(who, ring int) api.Errno {
	if e := p.open(ring, 1); e != 0 {
		return e
	}
	if p.there(who) {
		return api.ErrThere
	}
	p.joins = append(p.joins, join{who: who, ring: ring, writes: true})
	return 0
}

// read is a reader, or a pool, more.
func (p *plain) read(pool bool, ring int, start int64, who, ahead []int) api.Errno {
	if e := p.open(ring, min(len(who), 16)); e != 0 {
		return e
	}
	if len(who) < 1 || len(who) > 16 {
		return api.ErrArg
	}
	wrong := start < 0 || start > 1<<62
	if pool && wrong {
		return api.ErrRange
	}
	for i, w := range who {
		if p.writes(w) || p.at(w, ring) != nil || slices.Index(who, w) < i {
			return api.ErrThere
		}
	}
	if wrong {
		return api.ErrRange
	}
	for _, w := range ahead {
		if j := p.at(w, ring); j == nil || j.writes {
			return api.ErrNone
		}
	}
	number := 0
	if pool {
		p.pools++
		number = p.pools
	}
	for _, w := range who {
		p.joins = append(p.joins, join{who: w, ring: ring, pool: number, start: start, ahead: slices.Clone(ahead)})
	}
	return 0
}

func (p *plain) send(who int, l []api.Event) api.Errno {
	if !p.writes(who) {
		return api.ErrNone
	}
	if len(l) < 1 || len(l) > 64 {
		return api.ErrArg
	}
	p.sends = append(p.sends, sending{who, slices.Clone(l)})
	return 0
}

func (p *plain) take(n api.Note) api.Errno {
	e := p.may(n)
	if e == 0 {
		p.seen = append(p.seen, n)
	}
	return e
}

// may says what is wrong with a note.
func (p *plain) may(n api.Note) api.Errno {
	j := p.at(n.Who, n.Ring)
	if j == nil {
		return api.ErrNone
	}
	if p.stopped(n.Who) && (j.writes || n.Deed != api.Left) {
		return api.ErrHalted
	}
	if j.writes {
		return p.mayWrite(j, n)
	}
	return p.mayRead(j, n)
}

func (p *plain) mayWrite(j *join, n api.Note) api.Errno {
	l, ended := p.calls(j.who)
	if n.Deed == api.Stopped {
		if len(l) > ended {
			return api.ErrBusy
		}
		return 0
	}
	if n.Deed != api.Shown && n.Deed != api.Returned {
		return api.ErrArg
	}
	if len(l) == ended {
		return api.ErrIdle
	}
	c := l[ended]
	if n.Deed == api.Returned {
		if n.Code != 0 && len(c.shown) > 0 {
			return api.ErrBusy
		}
		if n.Code == 0 && (len(c.shown) != len(c.events) || n.Lo != c.shown[0] || n.Seq != c.shown[len(c.shown)-1]) {
			return api.ErrArg
		}
		return 0
	}
	return p.mayShow(j, c, n)
}

func (p *plain) mayShow(j *join, c call, n api.Note) api.Errno {
	if n.Lo < 0 || n.Lo > n.Seq || n.Seq > 1<<62 {
		return api.ErrRange
	}
	count := n.Seq - n.Lo + 1
	if len(c.shown) > 0 && n.Lo != c.shown[len(c.shown)-1]+1 {
		return api.ErrArg
	}
	if count > int64(len(c.events)-len(c.shown)) {
		return api.ErrArg
	}
	many := p.logs[j.ring].many
	if many && count > 1 || !many && count != int64(len(c.events)) {
		return api.ErrArg
	}
	there := p.published(j.ring)
	top := int64(-1)
	for i := range there {
		top = max(top, i)
	}
	if !many && n.Lo != top+1 || many && n.Lo > top+8193 {
		return api.ErrGating
	}
	if p.held(j.ring, n.Seq) {
		return api.ErrFull
	}
	for i := range there {
		if n.Lo <= i && i <= n.Seq {
			return api.ErrThere
		}
	}
	return 0
}

func (p *plain) mayRead(j *join, n api.Note) api.Errno {
	cursor, next := p.cursor(j), p.next(j)
	switch n.Deed {
	case api.Handled:
		return p.mayHandle(j, n)
	case api.Moved:
		if n.Lo != cursor+1 || n.Seq < n.Lo || j.pool == 0 && n.Seq != next-1 {
			return api.ErrArg
		}
		if _, ok := p.published(j.ring)[n.Seq]; !ok {
			return api.ErrNone
		}
		return 0
	case api.Returned:
		if j.pool != 0 {
			return api.ErrArg
		}
		if n.Code != 0 && next > p.since(j) {
			return api.ErrBusy
		}
		if n.Code == 0 && (n.Lo != p.since(j) || n.Seq != next-1 || n.Seq < n.Lo || n.Seq != cursor) {
			return api.ErrArg
		}
		return 0
	case api.Left:
		if len(p.did(j.who, j.ring, api.Left)) > 0 || n.Seq != cursor {
			return api.ErrArg
		}
		return 0
	case api.Late:
		if n.Seq <= cursor {
			return api.ErrArg
		}
		return 0
	case api.Stopped:
		return 0
	}
	return api.ErrArg
}

func (p *plain) mayHandle(j *join, n api.Note) api.Errno {
	x, ok := p.published(j.ring)[n.Seq]
	if n.Lo != n.Seq || !ok {
		return api.ErrNone
	}
	if x != n.X {
		return api.ErrForm
	}
	for _, w := range j.ahead {
		a := p.at(w, j.ring)
		if a.pool == 0 && p.cursor(a) < n.Seq {
			return api.ErrGating
		}
		if a.pool != 0 && !p.shared(a.pool, n.Seq) && n.Seq >= a.start {
			return api.ErrGating
		}
	}
	if j.pool == 0 && n.Seq != p.next(j) {
		return api.ErrArg
	}
	if j.pool != 0 && (p.shared(j.pool, n.Seq) || n.Seq < j.start) {
		return api.ErrThere
	}
	return 0
}
