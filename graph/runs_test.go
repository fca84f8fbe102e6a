package graph_test

import (
	"errors"
	"noria/api"
	"noria/graph"
	"slices"
	"testing"
)

// plain is a graph as a list of lists, told by the chapter's words one by one.
type plain struct {
	there []bool
	after [][]int
}

func (p *plain) has(n int) bool { return n >= 0 && n < len(p.there) && p.there[n] }

// behind says whether one node is behind another, directly or by others.
func (p *plain) behind(n, ahead int) bool {
	return slices.ContainsFunc(p.after[n], func(m int) bool { return m == ahead || p.behind(m, ahead) })
}

// follower says whether some node is directly behind one.
func (p *plain) follower(n int) bool {
	return slices.ContainsFunc(p.after, func(l []int) bool { return slices.Contains(l, n) })
}

func (p *plain) add(after []int) (int, error) {
	if len(p.there) >= api.MaxActors {
		return 0, api.ErrMany
	}
	for i, n := range after {
		if !p.has(n) {
			return 0, api.ErrNone
		}
		if slices.Contains(after[:i], n) {
			return 0, api.ErrThere
		}
	}
	p.there, p.after = append(p.there, true), append(p.after, slices.Clone(after))
	return len(p.there) - 1, nil
}

func (p *plain) link(node, ahead int) error {
	switch {
	case !p.has(node) || !p.has(ahead):
		return api.ErrNone
	case node == ahead || p.behind(ahead, node):
		return api.ErrCycle
	case slices.Contains(p.after[node], ahead):
		return api.ErrThere
	}
	p.after[node] = append(p.after[node], ahead)
	return nil
}

func (p *plain) drop(node int) error {
	if !p.has(node) {
		return api.ErrNone
	}
	if p.follower(node) {
		return api.ErrBusy
	}
	p.there[node], p.after[node] = false, nil
	return nil
}

// those are the nodes of which something is so, rising.
func (p *plain) those(so func(n int) bool) []int {
	var l []int
	for n := range p.there {
		if p.there[n] && so(n) {
			l = append(l, n)
		}
	}
	return l
}

func (p *plain) depth(n int) int {
	d := 0
	for _, m := range p.after[n] {
		d = max(d, p.depth(m)+1)
	}
	return d
}

// order goes on behind l with the least of those whose nodes ahead all stand there.
func (p *plain) order() []int {
	var l []int
	for {
		next := p.those(func(n int) bool {
			return !slices.Contains(l, n) && !slices.ContainsFunc(p.after[n], func(m int) bool { return !slices.Contains(l, m) })
		})
		if len(next) == 0 {
			return l
		}
		l = append(l, next[0])
	}
}

// check holds all that a graph tells against the plain one.
func (p *plain) check(t *testing.T, g *graph.Graph, run ...any) {
	t.Helper()
	if g.Len() != len(p.there) || !slices.Equal(g.Order(), p.order()) || !slices.Equal(g.Ends(), p.those(func(n int) bool { return !p.follower(n) })) {
		t.Fatal(run, g.Len(), g.Order(), g.Ends(), *p)
	}
	for n := -1; n <= len(p.there); n++ {
		if g.Has(n) != p.has(n) {
			t.Fatal(run, n, g.Has(n), *p)
		}
		if !p.has(n) {
			if len(g.After(n))+len(g.Behind(n))+len(g.Reach(n))+g.Depth(n) != 0 {
				t.Fatal(run, n, *p)
			}
			continue
		}
		reach := g.Reach(n)
		if !slices.Equal(g.After(n), p.after[n]) || !slices.Equal(g.Behind(n), p.those(func(m int) bool { return slices.Contains(p.after[m], n) })) ||
			!slices.Equal(reach, p.those(func(m int) bool { return p.behind(n, m) })) || g.Depth(n) != p.depth(n) {
			t.Fatal(run, n, g.After(n), g.Behind(n), reach, g.Depth(n), *p)
		}
		// P13.4.
		if slices.Contains(reach, n) {
			t.Fatal(run, n, reach)
		}
	}
}

// act is one thing that is done to a graph: nodes are added (0), linked (1) or taken out (2).
type act struct {
	kind, node, ahead int
	after             []int
}

// do does an act to both, and wants one answer.
func do(t *testing.T, g *graph.Graph, p *plain, a act) {
	t.Helper()
	var n, m int
	var e, f error
	switch a.kind {
	case 0:
		n, e = g.Add(a.after...)
		m, f = p.add(a.after)
	case 1:
		e, f = g.Link(a.node, a.ahead), p.link(a.node, a.ahead)
	default:
		e, f = g.Drop(a.node), p.drop(a.node)
	}
	if n != m || !errors.Is(e, f) || (e == nil) != (f == nil) {
		t.Fatal(a, n, m, e, f, *p)
	}
}

// P13.1 to P13.4: all runs of five acts, held against the plain graph after each.
func TestAllRuns(t *testing.T) {
	acts := []act{
		{kind: 0}, {kind: 0, after: []int{0}}, {kind: 0, after: []int{1, 0}}, {kind: 0, after: []int{2, 1}},
		{kind: 1, node: 0, ahead: 1}, {kind: 1, node: 1, ahead: 2}, {kind: 1, node: 2, ahead: 0}, {kind: 1, node: 0, ahead: 2}, {kind: 1, node: 2, ahead: 2},
		{kind: 2, node: 0}, {kind: 2, node: 1}, {kind: 2, node: 2},
	}
	var run [5]act
	var goOn func(at int)
	goOn = func(at int) {
		g, p := graph.New(), &plain{}
		do(t, g, p, act{})
		for _, a := range run[:at] {
			do(t, g, p, a)
		}
		p.check(t, g, run[:at])
		if at == len(run) {
			return
		}
		for _, a := range acts {
			run[at] = a
			goOn(at + 1)
		}
	}
	goOn(0)
}

// P13.1 to P13.4: all graphs of four nodes whose links are made in all orders of some.
func TestAllLinks(t *testing.T) {
	var pairs []act
	for n := range 4 {
		for m := range 4 {
			pairs = append(pairs, act{kind: 1, node: n, ahead: m})
		}
	}
	for set := range 1 << len(pairs) {
		g, p := graph.New(), &plain{}
		for range 4 {
			do(t, g, p, act{})
		}
		// From another one on each time, so that it isn't always the first links that stand.
		for i := range pairs {
			if k := (i*5 + set) % len(pairs); set>>k&1 == 1 {
				do(t, g, p, pairs[k])
			}
		}
		p.check(t, g, set)
	}
}

// P13.1 to P13.4: long runs on many nodes.
func TestLongRuns(t *testing.T) {
	for seed := range 60 {
		x := uint64(seed)*2654435761 + 1
		below := func(n int) int {
			x = x*6364136223846793005 + 1442695040888963407
			return int(x>>33) % n
		}
		g, p := graph.New(), &plain{}
		for range 200 {
			a := act{kind: below(3), node: below(len(p.there)+2) - 1, ahead: below(len(p.there)+2) - 1}
			if a.kind == 2 && below(2) == 0 {
				a.kind = 1
			}
			for range below(4) {
				a.after = append(a.after, below(len(p.there)+1))
			}
			if a.kind == 0 && below(3) > 0 {
				// Most of them without the same one twice, and none that isn't there.
				a.after = slices.DeleteFunc(slices.Compact(slices.Sorted(slices.Values(a.after))), func(n int) bool { return !p.has(n) })
				slices.Reverse(a.after)
			}
			do(t, g, p, a)
		}
		p.check(t, g, seed)
	}
}
