package graph_test

import (
	"errors"
	"math"
	"noria/api"
	"noria/graph"
	"slices"
	"testing"
)

// far are numbers that no node ever has.
var far = []int{-1, -2, math.MinInt, math.MinInt + 1, api.MaxActors, api.MaxActors + 1, 1 << 32, math.MaxInt - 1, math.MaxInt}

// add adds a node, and wants it to have this number.
func add(t *testing.T, g *graph.Graph, want int, after ...int) {
	t.Helper()
	if n, e := g.Add(after...); n != want || e != nil {
		t.Fatal(after, n, want, e)
	}
}

// built is a graph of nodes added one by one, each behind those of its list.
func built(t *testing.T, lists ...[]int) *graph.Graph {
	t.Helper()
	g := graph.New()
	for n, l := range lists {
		add(t, g, n, l...)
	}
	return g
}

// link wants a node to be put behind another.
func link(t *testing.T, g *graph.Graph, node, ahead int) {
	t.Helper()
	if e := g.Link(node, ahead); e != nil {
		t.Fatal(node, ahead, e)
	}
}

// drop wants nodes to be taken out.
func drop(t *testing.T, g *graph.Graph, nodes ...int) {
	t.Helper()
	for _, n := range nodes {
		if e := g.Drop(n); e != nil {
			t.Fatal(n, e)
		}
	}
}

// same wants a list to be just this.
func same(t *testing.T, what string, l []int, want ...int) {
	t.Helper()
	if !slices.Equal(l, want) {
		t.Fatal(what, l, want)
	}
}

// told is all that a graph tells, of all numbers that a node can have, and of some more.
type told struct {
	len         int
	ends, order []int
	has         []bool
	depth       []int
	lists       [][]int
}

func tell(g *graph.Graph) told {
	x := told{len: g.Len(), ends: g.Ends(), order: g.Order()}
	for n := -2; n <= api.MaxActors+1; n++ {
		x.has = append(x.has, g.Has(n))
		x.depth = append(x.depth, g.Depth(n))
		x.lists = append(x.lists, g.After(n), g.Behind(n), g.Reach(n))
	}
	return x
}

func (x told) equal(y told) bool {
	return x.len == y.len && slices.Equal(x.ends, y.ends) && slices.Equal(x.order, y.order) && slices.Equal(x.has, y.has) &&
		slices.Equal(x.depth, y.depth) && slices.EqualFunc(x.lists, y.lists, slices.Equal[[]int])
}

// refusedAdd wants Add to answer an error, without a number, and to change nothing.
func refusedAdd(t *testing.T, g *graph.Graph, want error, after ...int) {
	t.Helper()
	was := tell(g)
	if n, e := g.Add(after...); n != 0 || !errors.Is(e, want) {
		t.Fatal(after, n, e, want)
	}
	if !tell(g).equal(was) {
		t.Fatal(after, "changed", tell(g), was)
	}
}

// refusedLink wants Link to answer an error, and to change nothing.
func refusedLink(t *testing.T, g *graph.Graph, want error, node, ahead int) {
	t.Helper()
	was := tell(g)
	if e := g.Link(node, ahead); !errors.Is(e, want) {
		t.Fatal(node, ahead, e, want)
	}
	if !tell(g).equal(was) {
		t.Fatal(node, ahead, "changed", tell(g), was)
	}
}

// refusedDrop wants Drop to answer an error, and to change nothing.
func refusedDrop(t *testing.T, g *graph.Graph, want error, node int) {
	t.Helper()
	was := tell(g)
	if e := g.Drop(node); !errors.Is(e, want) {
		t.Fatal(node, e, want)
	}
	if !tell(g).equal(was) {
		t.Fatal(node, "changed", tell(g), was)
	}
}

// P13.1, P13.2, P13.3: the chapter's example.
func TestExample(t *testing.T) {
	g := built(t, nil, []int{0}, []int{0, 1})
	refusedLink(t, g, api.ErrCycle, 0, 2)
	same(t, "order", g.Order(), 0, 1, 2)
	if d := g.Depth(2); d != 2 {
		t.Fatal(d)
	}
	same(t, "ends", g.Ends(), 2)
}

// P13.1: a new graph has no node; a zero one is as a new one.
func TestNew(t *testing.T) {
	for _, g := range []*graph.Graph{graph.New(), {}} {
		if g == nil || g.Len() != 0 || g.Has(0) || len(g.Ends()) != 0 || len(g.Order()) != 0 {
			t.Fatal(g)
		}
		add(t, g, 0)
		add(t, g, 1, 0)
		if g.Len() != 2 || !g.Has(0) || !g.Has(1) || g.Has(2) {
			t.Fatal(tell(g))
		}
	}
	if a, b := graph.New(), graph.New(); a == b {
		t.Fatal("one graph twice")
	}
}

// P13.1: graphs have nothing together.
func TestTwoGraphs(t *testing.T) {
	a, b := graph.New(), graph.New()
	add(t, a, 0)
	add(t, a, 1, 0)
	if b.Len() != 0 || b.Has(0) {
		t.Fatal(tell(b))
	}
	add(t, b, 0)
	same(t, "behind", b.Behind(0))
	same(t, "behind", a.Behind(0), 1)
}

// P13.1: nodes are numbered from 0 on; Len counts those that were taken out, too, and no number is used again.
func TestNumbers(t *testing.T) {
	g := built(t, nil, nil, []int{1})
	drop(t, g, 2, 1)
	if g.Len() != 3 || !g.Has(0) || g.Has(1) || g.Has(2) || g.Has(3) {
		t.Fatal(tell(g))
	}
	add(t, g, 3, 0)
	drop(t, g, 3)
	add(t, g, 4)
	if g.Len() != 5 || g.Has(3) || !g.Has(4) {
		t.Fatal(tell(g))
	}
	drop(t, g, 0, 4)
	if g.Len() != 5 || len(g.Order()) != 0 || len(g.Ends()) != 0 {
		t.Fatal(tell(g))
	}
	add(t, g, 5)
	same(t, "order", g.Order(), 5)
}

// P13.1, P13.2: Link puts a node behind one more, after those that were named.
func TestLink(t *testing.T) {
	g := built(t, nil, nil, nil, []int{1})
	link(t, g, 3, 2)
	link(t, g, 3, 0)
	same(t, "after", g.After(3), 1, 2, 0)
	link(t, g, 0, 2)
	same(t, "after", g.After(0), 2)
	same(t, "behind", g.Behind(2), 0, 3)
	same(t, "reach", g.Reach(3), 0, 1, 2)
}

// P13.1: a link that goes to a node by another way than a straight one may still be made straight.
func TestLinkBesideAWay(t *testing.T) {
	g := built(t, nil, []int{0}, []int{1})
	link(t, g, 2, 0)
	same(t, "after", g.After(2), 1, 0)
	same(t, "behind", g.Behind(0), 1, 2)
	refusedLink(t, g, api.ErrThere, 2, 0)
}

// P13.1, P13.2: who is taken out is behind nobody any more.
func TestDrop(t *testing.T) {
	g := built(t, nil, []int{0}, []int{0, 1}, []int{1})
	drop(t, g, 2)
	same(t, "behind 0", g.Behind(0), 1)
	same(t, "behind 1", g.Behind(1), 3)
	same(t, "after 2", g.After(2))
	same(t, "reach 2", g.Reach(2))
	same(t, "ends", g.Ends(), 3)
	same(t, "order", g.Order(), 0, 1, 3)
	if g.Has(2) || g.Depth(2) != 0 {
		t.Fatal(tell(g))
	}
	drop(t, g, 3, 1, 0)
	same(t, "order", g.Order())
}

// P13.2: After is as named, Behind, Reach and Ends rise.
func TestLists(t *testing.T) {
	g := built(t, nil, nil, nil, []int{2, 0}, []int{3, 1}, []int{2})
	link(t, g, 0, 5)
	for _, c := range []struct {
		node                 int
		after, behind, reach []int
	}{
		{0, []int{5}, []int{3}, []int{2, 5}},
		{1, nil, []int{4}, nil},
		{2, nil, []int{3, 5}, nil},
		{3, []int{2, 0}, []int{4}, []int{0, 2, 5}},
		{4, []int{3, 1}, nil, []int{0, 1, 2, 3, 5}},
		{5, []int{2}, []int{0}, []int{2}},
	} {
		same(t, "after", g.After(c.node), c.after...)
		same(t, "behind", g.Behind(c.node), c.behind...)
		same(t, "reach", g.Reach(c.node), c.reach...)
	}
	same(t, "ends", g.Ends(), 4)
	add(t, g, 6)
	same(t, "ends", g.Ends(), 4, 6)
}

// P13.3: of those that may stand next the least comes, also when it had to wait for one that is greater.
func TestOrder(t *testing.T) {
	g := built(t, nil, nil, nil, nil)
	same(t, "order", g.Order(), 0, 1, 2, 3)
	link(t, g, 0, 2)
	same(t, "order", g.Order(), 1, 2, 0, 3)
	link(t, g, 1, 3)
	same(t, "order", g.Order(), 2, 0, 3, 1)
	link(t, g, 2, 1)
	same(t, "order", g.Order(), 3, 1, 2, 0)
	drop(t, g, 0)
	same(t, "order", g.Order(), 3, 1, 2)
}

// P13.3: Depth is the longest way, not the shortest, and not how many are ahead in all.
func TestDepth(t *testing.T) {
	g := built(t, nil, []int{0}, []int{1}, []int{0, 2}, nil, []int{4, 0}, []int{5, 4, 0, 1})
	for n, want := range []int{0, 1, 2, 3, 0, 1, 2, 0} {
		if d := g.Depth(n); d != want {
			t.Fatal(n, d, want)
		}
	}
	link(t, g, 0, 4)
	for n, want := range []int{1, 2, 3, 4, 0, 2, 3} {
		if d := g.Depth(n); d != want {
			t.Fatal(n, d, want)
		}
	}
	drop(t, g, 3, 2)
	if g.Depth(2) != 0 || g.Depth(3) != 0 || g.Depth(6) != 3 {
		t.Fatal(tell(g))
	}
}

// P13.3: a row of all nodes, added from the front, and linked from behind.
func TestLongRow(t *testing.T) {
	front, back := graph.New(), graph.New()
	for n := range api.MaxActors {
		if n == 0 {
			add(t, front, 0)
		} else {
			add(t, front, n, n-1)
		}
		add(t, back, n)
	}
	for n := range api.MaxActors - 1 {
		link(t, back, n, n+1)
	}
	for n := range api.MaxActors {
		if d := front.Depth(n); d != n || len(front.Reach(n)) != n {
			t.Fatal(n, d, front.Reach(n))
		}
		if d := back.Depth(n); d != api.MaxActors-1-n || len(back.Reach(n)) != d {
			t.Fatal(n, d, back.Reach(n))
		}
		if front.Order()[n] != n || back.Order()[n] != api.MaxActors-1-n {
			t.Fatal(front.Order(), back.Order())
		}
	}
	refusedLink(t, front, api.ErrCycle, 0, api.MaxActors-1)
	refusedLink(t, back, api.ErrCycle, api.MaxActors-1, 0)
}

// P13.3: each node behind all ahead: as many ways as there can be, and it ends at once all the same.
func TestFull(t *testing.T) {
	g := graph.New()
	var all []int
	for n := range api.MaxActors {
		add(t, g, n, all...)
		all = append(all, n)
	}
	for n := range api.MaxActors {
		same(t, "after", g.After(n), all[:n]...)
		same(t, "reach", g.Reach(n), all[:n]...)
		same(t, "behind", g.Behind(n), all[n+1:]...)
		if g.Depth(n) != n {
			t.Fatal(n, g.Depth(n))
		}
	}
	same(t, "order", g.Order(), all...)
	same(t, "ends", g.Ends(), api.MaxActors-1)
}

// Errors: of nil, and P13's "of nil: false, 0, none".
func TestNil(t *testing.T) {
	var g *graph.Graph
	for _, n := range append([]int{0, 1, 63}, far...) {
		if g.Has(n) || g.Depth(n) != 0 || len(g.After(n)) != 0 || len(g.Behind(n)) != 0 || len(g.Reach(n)) != 0 {
			t.Fatal(n)
		}
		refusedAdd(t, g, api.ErrNil, n, n)
		refusedLink(t, g, api.ErrNil, n, n)
		refusedDrop(t, g, api.ErrNil, n)
	}
	refusedAdd(t, g, api.ErrNil)
	if g.Len() != 0 || len(g.Ends()) != 0 || len(g.Order()) != 0 {
		t.Fatal(tell(g))
	}
}

// P13's "of a node that isn't there: false, 0, none": no number of none, none yet, and none any more.
func TestNotThere(t *testing.T) {
	g := built(t, nil, []int{0}, []int{1})
	drop(t, g, 2)
	for _, n := range append([]int{2, 3, 63}, far...) {
		if g.Has(n) || g.Depth(n) != 0 || len(g.After(n)) != 0 || len(g.Behind(n)) != 0 || len(g.Reach(n)) != 0 {
			t.Fatal(n)
		}
		refusedAdd(t, g, api.ErrNone, n)
		refusedAdd(t, g, api.ErrNone, 0, n)
		refusedLink(t, g, api.ErrNone, n, 0)
		refusedLink(t, g, api.ErrNone, 0, n)
		refusedLink(t, g, api.ErrNone, n, n)
		refusedDrop(t, g, api.ErrNone, n)
	}
	add(t, g, 3)
}

// Errors: Add goes through those that are named in order, and tells the first that is wrong.
func TestAddInOrder(t *testing.T) {
	g := built(t, nil, nil)
	refusedAdd(t, g, api.ErrThere, 0, 0)
	refusedAdd(t, g, api.ErrThere, 0, 1, 0)
	refusedAdd(t, g, api.ErrThere, 1, 0, 0, 9)
	refusedAdd(t, g, api.ErrThere, 1, 1, -1)
	refusedAdd(t, g, api.ErrNone, 1, 9, 1)
	refusedAdd(t, g, api.ErrNone, 9, 9)
	refusedAdd(t, g, api.ErrNone, 0, 2)
	refusedAdd(t, g, api.ErrNone, -1, 0, 0)
	add(t, g, 2, 1, 0)
	same(t, "after", g.After(2), 1, 0)
}

// Errors: MaxActors may be added, those that were taken out among them, and ErrMany is told first.
func TestMany(t *testing.T) {
	g := graph.New()
	for n := range api.MaxActors {
		add(t, g, n)
	}
	refusedAdd(t, g, api.ErrMany)
	refusedAdd(t, g, api.ErrMany, 0)
	refusedAdd(t, g, api.ErrMany, 0, 0)
	refusedAdd(t, g, api.ErrMany, -1)
	for n := range api.MaxActors {
		drop(t, g, n)
		refusedAdd(t, g, api.ErrMany)
	}
	if g.Len() != api.MaxActors {
		t.Fatal(g.Len())
	}
}

// Errors: a node that is ahead, directly or by others, doesn't come behind, nor does the node itself.
func TestCycle(t *testing.T) {
	g := built(t, nil, []int{0}, []int{1}, nil)
	refusedLink(t, g, api.ErrCycle, 0, 0)
	refusedLink(t, g, api.ErrCycle, 0, 1)
	refusedLink(t, g, api.ErrCycle, 0, 2)
	refusedLink(t, g, api.ErrCycle, 1, 2)
	refusedLink(t, g, api.ErrThere, 1, 0)
	refusedLink(t, g, api.ErrThere, 2, 1)
	link(t, g, 0, 3)
	refusedLink(t, g, api.ErrCycle, 3, 2)
	refusedLink(t, g, api.ErrThere, 0, 3)
	drop(t, g, 2, 1)
	add(t, g, 4)
	link(t, g, 3, 4)
	refusedLink(t, g, api.ErrCycle, 4, 0)
	drop(t, g, 0)
	refusedLink(t, g, api.ErrCycle, 4, 3)
	refusedLink(t, g, api.ErrNone, 4, 0)
}

// Errors: a node that some node is directly behind stays, till none is.
func TestBusy(t *testing.T) {
	g := built(t, nil, []int{0}, []int{0}, nil)
	link(t, g, 3, 2)
	refusedDrop(t, g, api.ErrBusy, 0)
	refusedDrop(t, g, api.ErrBusy, 2)
	drop(t, g, 1)
	refusedDrop(t, g, api.ErrNone, 1)
	refusedDrop(t, g, api.ErrBusy, 0)
	drop(t, g, 3)
	drop(t, g, 2)
	drop(t, g, 0)
	refusedDrop(t, g, api.ErrNone, 0)
}

// R3: what is handed in is not changed and not kept, nor is the room behind its end.
func TestHandedIn(t *testing.T) {
	g := built(t, nil, nil, nil)
	l := []int{1, 0, 7, 8}
	add(t, g, 3, l[:2]...)
	link(t, g, 3, 2)
	same(t, "handed in", l, 1, 0, 7, 8)
	l[0], l[1] = 2, 2
	same(t, "after", g.After(3), 1, 0, 2)
	same(t, "behind", g.Behind(2), 3)
}

// R3: what is handed out is new memory.
func TestHandedOut(t *testing.T) {
	g := built(t, nil, nil, []int{1, 0}, []int{2})
	was := tell(g)
	for _, l := range [][]int{g.After(2), g.Behind(0), g.Reach(3), g.Ends(), g.Order()} {
		if len(l) == 0 {
			t.Fatal(l)
		}
		for i := range l {
			l[i] = 63
		}
		// What stands behind the end would be overwritten, too.
		_ = append(l, 62)
	}
	if !tell(g).equal(was) {
		t.Fatal(tell(g), was)
	}
	a := g.After(2)
	add(t, g, 4)
	link(t, g, 2, 4)
	same(t, "after", a, 1, 0)
}
