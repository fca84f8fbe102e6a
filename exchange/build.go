package exchange

import (
	"noria/api"
	"noria/fault"
	"noria/graph"
	"noria/wait"
)

// newCells is how many cells a consumer lays.
const newCells = 2

// Spec is a consumer that is to be built with others: how it waits, how many events it handles at once, behind which of the others, by their places.
type Spec struct {
	Way   wait.Way
	Batch int
	After []int
}

// Build is some new consumers of a ring, each behind others of them.
func (x *Exchange) Build(ring int, l ...Spec) ([]int, error) {
	if e := x.open("build", ring); e != nil {
		return nil, e
	}
	if e := check(l); e != nil {
		return nil, fault.Wrap("build", int64(ring), e)
	}
	g, e := plan(l)
	if e != nil {
		return nil, fault.Wrap("build", int64(ring), e)
	}
	if !x.fits(ring, len(l)) {
		return nil, fault.Wrap("build", int64(ring), api.ErrMany)
	}
	// From here on there is place for all, and nothing is refused any more.
	who := make([]int, len(l))
	for _, place := range g.Order() {
		s := l[place]
		var after []int
		for _, ahead := range s.After {
			after = append(after, who[ahead])
		}
		if who[place], e = x.Consumer(ring, s.Way, s.Batch, after...); e != nil {
			return nil, e
		}
	}
	return who, nil
}

// check says what is wrong with consumers that are to be built, but for who is behind whom.
func check(l []Spec) error {
	if len(l) == 0 {
		return api.ErrArg
	}
	for place, s := range l {
		if e := wait.Check(s.Way); e != nil {
			return fault.Wrap("place", int64(place), e)
		}
		if s.Batch < 1 || s.Batch > api.MaxBatch {
			return fault.Wrap("place", int64(place), api.ErrArg)
		}
	}
	if len(l) > api.MaxActors {
		return api.ErrMany
	}
	return nil
}

// plan is who is behind whom, by their places.
func plan(l []Spec) (*graph.Graph, error) {
	g := graph.New()
	// All of them first: they may be behind those that come later in the list.
	for range l {
		if _, e := g.Add(); e != nil {
			return nil, e
		}
	}
	for place, s := range l {
		for _, ahead := range s.After {
			if e := g.Link(place, ahead); e != nil {
				return nil, e
			}
		}
	}
	return g, nil
}

// fits says whether there is place for so many consumers more on a ring.
func (x *Exchange) fits(ring, n int) bool {
	r := x.room
	return r.Gate(ring).Len()+n <= api.MaxGroup && r.Actors().Len()+n <= api.MaxActors && r.Arena().Len()+newCells*n <= api.MaxCells
}
