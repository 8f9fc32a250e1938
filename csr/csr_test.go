package csr_test

import (
	"errors"
	"math"
	"slices"
	"testing"

	"lading/api"
	"lading/csr"
	"lading/edges"
)

// All tests here are of promise P5.1.

const (
	maxNodes = 4096
	maxEdges = 20000
)

// far are numbers that are no node's, however many nodes there are.
var far = []int{-1, -2, -maxNodes, maxNodes, maxNodes + 1, 1 << 32, -1 << 32, 1<<32 + 1, math.MaxInt, math.MaxInt - 1, math.MinInt, math.MinInt + 1}

// list is edges, from pairs of numbers.
func list(ends ...int) []api.Edge {
	var l []api.Edge
	for i := 0; i < len(ends); i += 2 {
		l = append(l, api.Edge{From: ends[i], To: ends[i+1]})
	}
	return l
}

// picker is numbers below n, one after the other, always the same ones.
func picker(seed uint32) func(n int) int {
	x := seed
	return func(n int) int {
		x = x*1664525 + 1013904223
		return int(x>>8) % n
	}
}

// some is that many edges of a graph, in no order; those of few nodes are there often.
func some(pick func(int) int, nodes, many int) []api.Edge {
	l := make([]api.Edge, many)
	for i := range l {
		l[i] = api.Edge{From: pick(nodes), To: pick(nodes)}
	}
	return l
}

// lists is of each node its targets, rising, by another way than edges that are put in order.
func lists(nodes int, l []api.Edge) [][]int {
	m := make([][]int, nodes)
	for _, x := range l {
		at, found := slices.BinarySearch(m[x.From], x.To)
		if !found {
			m[x.From] = slices.Insert(m[x.From], at, x.To)
		}
	}
	return m
}

func turnedLists(m [][]int) [][]int {
	turned := make([][]int, len(m))
	for v, targets := range m {
		for _, w := range targets {
			turned[w] = append(turned[w], v)
		}
	}
	return turned
}

func built(t *testing.T, nodes int, l []api.Edge) *csr.Csr {
	t.Helper()
	kept := slices.Clone(l)
	c, err := csr.Build(nodes, l)
	if err != nil || c == nil {
		t.Fatalf("Build of %d nodes, %d edges: %d at %d", nodes, len(l), api.Code(err), api.Place(err))
	}
	if !slices.Equal(l, kept) {
		t.Error("the list was written into")
	}
	return c
}

// refuses: Targets and Degree answer the error and nothing else.
func refuses(t *testing.T, c *csr.Csr, v int, want api.Errno) {
	t.Helper()
	targets, err := c.Targets(v)
	if len(targets) != 0 || err == nil || !errors.Is(err, want) || api.Place(err) != -1 {
		t.Errorf("Targets(%d): %v, %d at %d; want error %d", v, targets, api.Code(err), api.Place(err), want)
	}
	degree, err := c.Degree(v)
	if degree != 0 || err == nil || !errors.Is(err, want) || api.Place(err) != -1 {
		t.Errorf("Degree(%d): %d, %d at %d; want error %d", v, degree, api.Code(err), api.Place(err), want)
	}
}

// rowsAre asks for all but single edges.
func rowsAre(t *testing.T, c *csr.Csr, m [][]int) {
	t.Helper()
	var all []api.Edge
	for v, want := range m {
		if got := c.Begin(v); got != len(all) {
			t.Errorf("Begin(%d) is %d, want %d", v, got, len(all))
		}
		if got, err := c.Targets(v); err != nil || !slices.Equal(got, want) {
			t.Errorf("Targets(%d): %.100v, %v; want %.100v", v, got, err, want)
		}
		if got, err := c.Degree(v); err != nil || got != len(want) {
			t.Errorf("Degree(%d): %d, %v; want %d", v, got, err, len(want))
		}
		for _, w := range want {
			all = append(all, api.Edge{From: v, To: w})
		}
	}
	if c.Nodes() != len(m) || c.Edges() != len(all) || c.Begin(len(m)) != len(all) {
		t.Errorf("%d nodes, %d edges, ending at %d; want %d, %d", c.Nodes(), c.Edges(), c.Begin(len(m)), len(m), len(all))
	}
	if got := c.List(); !slices.Equal(got, all) {
		t.Errorf("List() is %.200v, want %.200v", got, all)
	}
	noSuchNodes(t, c, len(m))
}

func noSuchNodes(t *testing.T, c *csr.Csr, nodes int) {
	t.Helper()
	for _, v := range append([]int{nodes, nodes + 1, -nodes - 1}, far...) {
		if v >= 0 && v < nodes {
			continue
		}
		refuses(t, c, v, api.ErrRange)
		if v != nodes && c.Begin(v) != -1 {
			t.Errorf("of %d nodes Begin(%d) is %d", nodes, v, c.Begin(v))
		}
		if c.Has(v, 0) || c.Has(0, v) || c.Has(v, v) || c.Has(nodes-1, v) || c.Has(v, nodes-1) {
			t.Errorf("of %d nodes %d has an edge", nodes, v)
		}
	}
}

func hasAre(t *testing.T, c *csr.Csr, m [][]int) {
	t.Helper()
	for v := range m {
		for w := range m {
			if want := slices.Contains(m[v], w); c.Has(v, w) != want {
				t.Errorf("Has(%d, %d) isn't %v", v, w, want)
			}
		}
	}
}

// isGraph asks for everything, of the graph and of it turned.
func isGraph(t *testing.T, nodes int, l []api.Edge) {
	t.Helper()
	m := lists(nodes, l)
	c := built(t, nodes, l)
	rowsAre(t, c, m)
	hasAre(t, c, m)
	turned := c.Turned()
	rowsAre(t, turned, turnedLists(m))
	hasAre(t, turned, turnedLists(m))
	if back := turned.Turned(); !back.Same(c) || !c.Same(back) {
		t.Errorf("turned twice %.200v is %.200v", c.List(), back.List())
	}
	rowsAre(t, c, m) // nothing that was asked has changed it
}

// smallGraph is the graph of n nodes whose edges are the bits of a number.
func smallGraph(n, bits int) []api.Edge {
	var l []api.Edge
	for i := range n * n {
		if bits>>i&1 == 1 {
			l = append(l, api.Edge{From: i / n, To: i % n})
		}
	}
	return l
}

func TestExample(t *testing.T) {
	c := built(t, 3, list(2, 0, 0, 1))
	if got, err := c.Targets(2); err != nil || !slices.Equal(got, []int{0}) || c.Begin(3) != 2 {
		t.Errorf("Targets(2) is %v, %v, Begin(3) %d", got, err, c.Begin(3))
	}
	for v, want := range []int{0, 1, 1, 2} {
		if c.Begin(v) != want {
			t.Errorf("Begin(%d) is %d, want %d", v, c.Begin(v), want)
		}
	}
}

func TestAllSmallGraphs(t *testing.T) {
	for n := range 4 {
		for bits := range 1 << (n * n) {
			l := smallGraph(n, bits)
			isGraph(t, n, l)
			slices.Reverse(l)
			isGraph(t, n, append(l, l...))
		}
	}
}

func TestSomeGraphs(t *testing.T) {
	pick := picker(5)
	for i := range 150 {
		nodes := 1 + pick(40)
		isGraph(t, nodes, some(pick, nodes, pick(3*i+2)))
	}
}

func TestGraphsWithoutEdges(t *testing.T) {
	for _, nodes := range []int{0, 1, 2, 100} {
		isGraph(t, nodes, nil)
		isGraph(t, nodes, []api.Edge{})
	}
	rowsAre(t, built(t, maxNodes, nil), make([][]int, maxNodes))
}

func TestRowsThatAreEmpty(t *testing.T) { // ahead of the first one, between two, behind the last one
	isGraph(t, 9, list(3, 1, 3, 8, 6, 0))
	isGraph(t, 9, list(8, 8))
	isGraph(t, 9, list(0, 0))
	isGraph(t, 9, list(0, 8, 8, 0))
}

func TestTheGreatestGraphs(t *testing.T) {
	pick := picker(9)
	wide := some(pick, maxNodes, maxEdges)
	dense := make([]api.Edge, maxEdges)
	for i := range dense {
		dense[i] = api.Edge{From: maxNodes - 1 - i/maxNodes, To: maxNodes - 1 - i%maxNodes}
	}
	last := slices.Repeat(list(maxNodes-1, maxNodes-1), maxEdges)
	for _, l := range [][]api.Edge{wide, dense, last} {
		m := lists(maxNodes, l)
		c := built(t, maxNodes, l)
		rowsAre(t, c, m)
		turned := c.Turned()
		rowsAre(t, turned, turnedLists(m))
		for range 20000 {
			v, w := pick(maxNodes), pick(maxNodes)
			if c.Has(v, w) != slices.Contains(m[v], w) {
				t.Errorf("Has(%d, %d) is %v", v, w, c.Has(v, w))
			}
		}
		for _, x := range l {
			if !c.Has(x.From, x.To) || !turned.Has(x.To, x.From) {
				t.Fatalf("%v isn't there", x)
			}
		}
	}
}

func TestGraphsThatMayNotBe(t *testing.T) {
	tooMany := make([]api.Edge, maxEdges+1)
	tooManyAndWrong := slices.Clone(tooMany)
	tooManyAndWrong[0].From = -1
	lastWrong := make([]api.Edge, maxEdges)
	lastWrong[maxEdges-1].To = 3
	for _, x := range []struct {
		nodes int
		l     []api.Edge
		at    int
	}{
		{-1, nil, -1},
		{maxNodes + 1, nil, -1},
		{math.MinInt, nil, -1},
		{math.MaxInt, nil, -1},
		{-1, list(0, 0), -1},
		{maxNodes + 1, tooManyAndWrong, -1},
		{1, tooMany, maxEdges},
		{3, tooManyAndWrong, maxEdges},
		{0, tooMany, maxEdges},
		{0, list(0, 0), 0},
		{2, list(0, 0, 0, 2), 1},
		{2, list(0, 0, 2, 0), 1},
		{2, list(-1, 0, 5, 5), 0},
		{2, list(0, 1, 1, 0, 1, -1, 9, 9), 2},
		{3, list(0, 0, math.MaxInt, 0), 1},
		{3, list(0, 0, 0, math.MinInt), 1},
		{maxNodes, list(0, maxNodes), 0},
		{3, lastWrong, maxEdges - 1},
	} {
		kept := slices.Clone(x.l)
		c, err := csr.Build(x.nodes, x.l)
		f, ok := err.(api.Fault)
		if c != nil || !ok || f.At != x.at || !errors.Is(f.Err, api.ErrGraph) {
			t.Errorf("Build of %d nodes, %d edges: %v, %d at %d; want %d at %d", x.nodes, len(x.l), c, api.Code(err), api.Place(err), api.ErrGraph, x.at)
		}
		_, norms := edges.Norm(x.nodes, x.l)
		if api.Code(err) != api.Code(norms) || api.Place(err) != api.Place(norms) {
			t.Errorf("Build of %d nodes, %d edges hasn't Norm's error", x.nodes, len(x.l))
		}
		if !slices.Equal(x.l, kept) {
			t.Error("the list was written into")
		}
	}
}

func TestSame(t *testing.T) {
	type graph struct {
		nodes int
		l     []api.Edge
	}
	var graphs []graph
	for n := range 3 {
		for bits := range 1 << (n * n) {
			graphs = append(graphs, graph{n, smallGraph(n, bits)})
		}
	}
	graphs = append(graphs,
		graph{3, nil}, graph{3, list(0, 1)}, graph{3, list(1, 1)}, graph{3, list(2, 1)}, // one list of targets in rows that differ
		graph{3, list(0, 1, 0, 2)}, graph{3, list(0, 1, 1, 2)}, graph{3, list(0, 1, 2, 2)}, graph{3, list(0, 1, 2, 1)},
		graph{4, nil}, graph{4, list(0, 1)}, graph{maxNodes, nil}, graph{maxNodes - 1, nil}, graph{maxNodes, list(0, 1)},
	)
	for i, a := range graphs {
		for j, b := range graphs {
			turnedAbout := append(slices.Clone(b.l), b.l...)
			slices.Reverse(turnedAbout)
			if built(t, a.nodes, a.l).Same(built(t, b.nodes, turnedAbout)) != (i == j) {
				t.Errorf("Same of %d, %v and %d, %v isn't %v", a.nodes, a.l, b.nodes, b.l, i == j)
			}
		}
	}
	c := built(t, 3, list(0, 1))
	if !c.Same(c) {
		t.Error("a graph isn't the same as itself")
	}
}

func TestSameOfGreatGraphs(t *testing.T) {
	l := some(picker(2), maxNodes-1, maxEdges-1)
	c := built(t, maxNodes, l)
	if !c.Same(built(t, maxNodes, c.List())) {
		t.Error("its own list's graph isn't the same")
	}
	if c.Same(built(t, maxNodes-1, l)) {
		t.Error("a node more is the same")
	}
	if c.Same(built(t, maxNodes, append(l, api.Edge{From: maxNodes - 1, To: maxNodes - 1}))) {
		t.Error("an edge more is the same")
	}
	other := c.List()
	end := &other[len(other)-1]
	end.To = (end.To + 1) % maxNodes
	if x := built(t, maxNodes, other); c.Same(x) || x.Same(c) {
		t.Error("another target is the same")
	}
}

func TestNil(t *testing.T) {
	var c *csr.Csr
	if c.Nodes() != 0 || c.Edges() != 0 || len(c.List()) != 0 || c.Turned() != nil {
		t.Error("nil has something")
	}
	for _, v := range append([]int{0, 1}, far...) {
		refuses(t, c, v, api.ErrArg)
		if c.Has(v, v) || c.Has(0, v) || c.Has(v, 0) || c.Begin(v) != -1 {
			t.Errorf("nil has node %d", v)
		}
	}
	if !c.Same(nil) || !c.Same(c) {
		t.Error("nil isn't the same as nil")
	}
	for _, x := range []*csr.Csr{built(t, 0, nil), built(t, 1, nil), built(t, 1, list(0, 0)), {}} {
		if c.Same(x) || x.Same(c) || x.Same(nil) {
			t.Errorf("nil is the same as a graph of %d nodes", x.Nodes())
		}
	}
}

// TestCsrThatWasNotBuilt: it is a graph without nodes, and nothing panics.
func TestCsrThatWasNotBuilt(t *testing.T) {
	c := &csr.Csr{}
	rowsAre(t, c, nil)
	rowsAre(t, c.Turned(), nil)
	if empty := built(t, 0, nil); !c.Same(empty) || !empty.Same(c) || !c.Same(c.Turned()) {
		t.Error("it isn't the graph without nodes")
	}
}

func TestTheListIsNotKept(t *testing.T) {
	given := list(0, 1, 1, 2, 2, 0) // normalised: what is kept could be it
	l := slices.Clone(given)
	c := built(t, 3, l)
	for i := range l {
		l[i] = api.Edge{From: 2, To: 2}
	}
	rowsAre(t, c, lists(3, given))
}

func TestAnswersShareNothing(t *testing.T) {
	l := list(0, 0, 0, 1, 1, 2, 2, 0, 2, 2)
	m := lists(3, l)
	c := built(t, 3, l)
	turned := c.Turned()
	for v := range 3 {
		targets, _ := c.Targets(v)
		again, _ := c.Targets(v)
		_ = append(targets[:0], 7, 7, 7, 7, 7)
		if !slices.Equal(again, m[v]) {
			t.Errorf("two answers of Targets(%d) share memory", v)
		}
		_ = append(again, 8, 8, 8, 8, 8)
	}
	edgesOf, again := c.List(), c.List()
	for i := range edgesOf {
		edgesOf[i] = api.Edge{From: 9, To: 9}
	}
	if !slices.Equal(again, l) {
		t.Error("two answers of List() share memory")
	}
	rowsAre(t, c, m)
	rowsAre(t, turned, turnedLists(m))
	rowsAre(t, built(t, 3, again), m)
}
