package ask_test

import (
	"fmt"
	"math"
	"slices"
	"testing"

	"lading/api"
	"lading/ask"
	"lading/csr"
)

// All tests here are of promise P11.1.

const (
	maxNodes = 4096
	maxEdges = 20000
	none     = -1 // the distance of who isn't met
)

// far are numbers that are no node's, however many nodes there are.
var far = []int{-1, -2, -maxNodes, maxNodes, maxNodes + 1, 1 << 32, -1 << 32, 1<<32 + 1, math.MaxInt, math.MaxInt - 1, math.MinInt, math.MinInt + 1}

// list is edges, from pairs of numbers.
func list(ends ...int) []api.Edge {
	var l []api.Edge
	for i := 0; i < len(ends); i += 2 {
		l = append(l, api.Edge{From: ends[i], To: ends[i+1]})
	}
	return l
}

func built(t *testing.T, nodes int, l []api.Edge) *csr.Csr {
	t.Helper()
	c, err := csr.Build(nodes, l)
	if err != nil {
		t.Fatalf("Build of %d nodes, %d edges: %v", nodes, len(l), err)
	}
	return c
}

// picker is numbers below n, one after the other, always the same ones.
func picker(seed uint32) func(n int) int {
	x := seed
	return func(n int) int {
		x = x*1664525 + 1013904223
		return int(x>>8) % n
	}
}

func some(pick func(int) int, nodes, many int) []api.Edge {
	l := make([]api.Edge, many)
	for i := range l {
		l[i] = api.Edge{From: pick(nodes), To: pick(nodes)}
	}
	return l
}

// distances are from one node to all: edges are gone over, till none makes a distance less.
func distances(nodes int, l []api.Edge, from int) []int {
	d := slices.Repeat([]int{none}, nodes)
	d[from] = 0
	for again := true; again; {
		again = false
		for _, x := range l {
			if d[x.From] != none && (d[x.To] == none || d[x.To] > d[x.From]+1) {
				d[x.To] = d[x.From] + 1
				again = true
			}
		}
	}
	return d
}

// model is who is met from a node, in order, and through whom: by distances, each distance's nodes in the order of whom they're first met through.
func model(nodes int, l []api.Edge, from int) (met []ask.Met, through map[int]int) {
	d := distances(nodes, l, from)
	met = []ask.Met{{Node: from}}
	through = map[int]int{}
	place := map[int]int{from: 0}
	for k := 1; ; k++ {
		first := map[int]int{} // the least place of who leads there
		for _, x := range l {
			if d[x.To] != k || d[x.From] != k-1 {
				continue
			}
			if p, is := first[x.To]; !is || place[x.From] < p {
				first[x.To] = place[x.From]
			}
		}
		if len(first) == 0 {
			return met, through
		}
		var level [][2]int
		for v, p := range first {
			level = append(level, [2]int{p, v})
		}
		slices.SortFunc(level, func(a, b [2]int) int { return slices.Compare(a[:], b[:]) })
		for _, x := range level {
			place[x[1]] = len(met)
			through[x[1]] = met[x[0]].Node
			met = append(met, ask.Met{Node: x[1], Far: k})
		}
	}
}

// bounded is how much of a search's list one with bounds meets.
func bounded(met []ask.Met, depth, most int) []ask.Met {
	var l []ask.Met
	for _, x := range met {
		if x.Far <= depth && len(l) < most {
			l = append(l, x)
		}
	}
	return l
}

// searchesAre asks for searches from a node, with bounds of all kinds.
func searchesAre(t *testing.T, c *csr.Csr, from int, met []ask.Met, who string) {
	t.Helper()
	deepest := met[len(met)-1].Far
	for _, depth := range []int{0, 1, 2, deepest - 1, deepest, deepest + 1, c.Nodes(), maxNodes + 1, 1 << 32, math.MaxInt - 1, math.MaxInt} {
		for _, most := range []int{1, 2, 3, len(met) - 1, len(met), len(met) + 1, c.Nodes() + 1, maxNodes + 1, 1 << 32, math.MaxInt - 1, math.MaxInt} {
			if depth < 0 || most < 1 {
				continue
			}
			want := bounded(met, depth, most)
			if got, err := ask.Search(c, from, depth, most); err != nil || !slices.Equal(got, want) {
				t.Errorf("%s: Search(%d, %d, %d): %.200v, %v; want %.200v", who, from, depth, most, fmt.Sprint(got), err, fmt.Sprint(want))
			}
		}
	}
	if got, err := ask.Reach(c, from); err != nil || got != len(met) {
		t.Errorf("%s: Reach(%d): %d, %v; want %d", who, from, got, err, len(met))
	}
}

// waysAre asks for Far and Path between two nodes.
func waysAre(t *testing.T, c *csr.Csr, from, to, dist int, through map[int]int, who string) {
	t.Helper()
	n, err := ask.Far(c, from, to)
	p, perr := ask.Path(c, from, to)
	if dist == none {
		isNone(t, err, n == 0, api.ErrNone, who+": Far")
		isNone(t, perr, len(p) == 0, api.ErrNone, who+": Path")
		return
	}
	if err != nil || n != dist {
		t.Errorf("%s: Far(%d, %d): %d, %v; want %d", who, from, to, n, err, dist)
	}
	if perr != nil || len(p) != dist+1 || p[0] != from || p[dist] != to {
		t.Errorf("%s: Path(%d, %d): %.100v, %v; it should have %d nodes", who, from, to, p, perr, dist+1)
		return
	}
	for i := 1; i < len(p); i++ {
		if through[p[i]] != p[i-1] || !c.Has(p[i-1], p[i]) {
			t.Errorf("%s: Path(%d, %d): %.100v: %d was met through %d", who, from, to, p, p[i], through[p[i]])
		}
	}
}

// isNone: that plain error, and nothing else.
func isNone(t *testing.T, err error, empty bool, want api.Errno, who string) {
	t.Helper()
	n, plain := err.(api.Errno)
	if !plain || n != want || !empty {
		t.Errorf("%s: error %d at %d (nothing else: %v), want just %d", who, api.Code(err), api.Place(err), empty, want)
	}
}

// commonIs asks for what is common to two nodes.
func commonIs(t *testing.T, c *csr.Csr, l []api.Edge, v, w int, who string) {
	t.Helper()
	var want []int
	for x := range c.Nodes() {
		if slices.Contains(l, api.Edge{From: v, To: x}) && slices.Contains(l, api.Edge{From: w, To: x}) {
			want = append(want, x)
		}
	}
	if got, err := ask.Common(c, v, w); err != nil || !slices.Equal(got, want) {
		t.Errorf("%s: Common(%d, %d): %.100v, %v; want %.100v", who, v, w, got, err, want)
	}
}

// allIs asks a graph for all, from each of the nodes.
func allIs(t *testing.T, nodes int, l []api.Edge, who string) {
	t.Helper()
	c := built(t, nodes, l)
	kept := c.List()
	for from := range nodes {
		met, through := model(nodes, l, from)
		searchesAre(t, c, from, met, who)
		d := distances(nodes, l, from)
		for to := range nodes {
			waysAre(t, c, from, to, d[to], through, who)
			commonIs(t, c, l, from, to, who)
		}
	}
	if !slices.Equal(c.List(), kept) {
		t.Errorf("%s: the graph isn't what it was", who)
	}
}

func TestExample(t *testing.T) {
	c := built(t, 3, list(0, 1, 1, 2, 0, 2))
	got, err := ask.Search(c, 0, 9, 9)
	if err != nil || !slices.Equal(got, []ask.Met{{Node: 0, Far: 0}, {Node: 1, Far: 1}, {Node: 2, Far: 1}}) {
		t.Errorf("Search(0, 9, 9): %v, %v", got, err)
	}
}

// The order is that in which nodes were met, not that of their numbers: 3 is met ahead of 1, since 2 leads there, and was met ahead of 5.
func TestOrder(t *testing.T) {
	c := built(t, 6, list(0, 5, 0, 2, 5, 1, 2, 4, 2, 3, 5, 3, 1, 0))
	want := []ask.Met{{Node: 0, Far: 0}, {Node: 2, Far: 1}, {Node: 5, Far: 1}, {Node: 3, Far: 2}, {Node: 4, Far: 2}, {Node: 1, Far: 2}}
	if got, err := ask.Search(c, 0, 2, 6); err != nil || !slices.Equal(got, want) {
		t.Errorf("Search: %v, %v; want %v", got, err, want)
	}
	if got, err := ask.Search(c, 0, 2, 4); err != nil || !slices.Equal(got, want[:4]) {
		t.Errorf("Search of 4 nodes: %v, %v; want %v", got, err, want[:4])
	}
	if got, err := ask.Path(c, 0, 3); err != nil || !slices.Equal(got, []int{0, 2, 3}) {
		t.Errorf("Path to 3: %v, %v", got, err)
	}
	if got, err := ask.Path(c, 1, 1); err != nil || !slices.Equal(got, []int{1}) {
		t.Errorf("Path from 1 to itself: %v, %v", got, err)
	}
}

// TestSmall asks all graphs of up to 3 nodes.
func TestSmall(t *testing.T) {
	for nodes := range 4 {
		for bits := range 1 << (nodes * nodes) {
			var l []api.Edge
			for i := range nodes * nodes {
				if bits>>i&1 == 1 {
					l = append(l, api.Edge{From: i / nodes, To: i % nodes})
				}
			}
			allIs(t, nodes, l, fmt.Sprint(nodes, " nodes, ", l))
		}
	}
}

// TestSome asks greater graphs, with edges that are there more than once, in no order.
func TestSome(t *testing.T) {
	pick := picker(11)
	for range 60 {
		nodes := 4 + pick(20)
		many := pick(3 * nodes)
		allIs(t, nodes, some(pick, nodes, many), fmt.Sprint("some graph of ", nodes, " nodes, ", many, " edges"))
	}
}

// TestShapes asks graphs in which all is near, and in which all is far.
func TestShapes(t *testing.T) {
	const n = 12
	var row, ring, star, into, complete, loops, back []api.Edge
	for v := range n {
		if v > 0 {
			row = append(row, list(v-1, v)...)
			star = append(star, list(0, v)...)
			into = append(into, list(v, 0)...)
			back = append(back, list(v, v-1)...)
		}
		ring = append(ring, list(v, (v+5)%n)...)
		loops = append(loops, list(v, v)...)
		for w := range n {
			complete = append(complete, list(v, w)...)
		}
	}
	for i, l := range [][]api.Edge{nil, row, back, ring, star, into, complete, loops, slices.Concat(row, back, loops)} {
		allIs(t, n, l, fmt.Sprint("shape ", i))
	}
}

// TestGreatest asks graphs with the most nodes, and the most edges.
func TestGreatest(t *testing.T) {
	var row []api.Edge
	for v := 1; v < maxNodes; v++ {
		row = append(row, list(v-1, v)...)
	}
	c := built(t, maxNodes, row)
	if n, err := ask.Far(c, 0, maxNodes-1); err != nil || n != maxNodes-1 {
		t.Errorf("Far through a row: %d, %v", n, err)
	}
	p, err := ask.Path(c, 0, maxNodes-1)
	if err != nil || len(p) != maxNodes {
		t.Fatalf("Path through a row: %d nodes, %v", len(p), err)
	}
	for i, v := range p {
		if v != i {
			t.Fatalf("Path through a row has %d as its %dth node", v, i)
		}
	}
	if n, err := ask.Reach(c, 1); err != nil || n != maxNodes-1 {
		t.Errorf("Reach in a row: %d, %v", n, err)
	}
	isNone(t, farOf(c, maxNodes-1, 0), true, api.ErrNone, "Far back through a row")
	l := some(picker(5), maxNodes, maxEdges)
	met, through := model(maxNodes, l, 7)
	c = built(t, maxNodes, l)
	searchesAre(t, c, 7, met, "the most edges")
	d := distances(maxNodes, l, 7)
	for to := 0; to < maxNodes; to += 97 {
		waysAre(t, c, 7, to, d[to], through, "the most edges")
	}
}

func farOf(c *csr.Csr, from, to int) error {
	_, err := ask.Far(c, from, to)
	return err
}

// refuses: each call from there tells just that error.
func refuses(t *testing.T, c *csr.Csr, from, to int, want api.Errno) {
	t.Helper()
	who := func(f string) string { return fmt.Sprint(f, " from ", from, " to ", to) }
	n, err := ask.Far(c, from, to)
	isNone(t, err, n == 0, want, who("Far"))
	p, err := ask.Path(c, from, to)
	isNone(t, err, len(p) == 0, want, who("Path"))
	l, err := ask.Common(c, from, to)
	isNone(t, err, len(l) == 0, want, who("Common"))
}

func TestWrong(t *testing.T) {
	c := built(t, 3, list(0, 1, 1, 2, 0, 2))
	for _, v := range append(far, 3, 4) {
		for _, w := range append(far, 0, 1, 2, 3) {
			refuses(t, c, v, w, api.ErrRange)
			refuses(t, c, w, v, api.ErrRange)
		}
		l, err := ask.Search(c, v, 9, 9)
		isNone(t, err, len(l) == 0, api.ErrRange, fmt.Sprint("Search from ", v))
		n, err := ask.Reach(c, v)
		isNone(t, err, n == 0, api.ErrRange, fmt.Sprint("Reach from ", v))
	}
	below := []int{-1, -2, -1 << 32, math.MinInt, math.MinInt + 1}
	for _, v := range []int{0, 2, 3, -1, math.MaxInt, math.MinInt} { // whether the node is there or not
		for _, x := range below {
			for _, depth := range append(below, 9) {
				l, err := ask.Search(c, v, depth, x)
				isNone(t, err, len(l) == 0, api.ErrArg, fmt.Sprint("Search from ", v, " of depth ", depth, ", most ", x))
			}
			l, err := ask.Search(c, v, x, 9)
			isNone(t, err, len(l) == 0, api.ErrArg, fmt.Sprint("Search from ", v, " of depth ", x))
		}
		l, err := ask.Search(c, v, 9, 0)
		isNone(t, err, len(l) == 0, api.ErrArg, fmt.Sprint("Search from ", v, ", most 0"))
	}
}

// TestNone asks no graph, and graphs without nodes.
func TestNone(t *testing.T) {
	for _, v := range append(far, 0, 1) {
		for _, w := range []int{0, -1, math.MaxInt} {
			refuses(t, nil, v, w, api.ErrArg)
			refuses(t, nil, w, v, api.ErrArg)
			refuses(t, &csr.Csr{}, v, w, api.ErrRange)
			refuses(t, built(t, 0, nil), v, w, api.ErrRange)
		}
		l, err := ask.Search(nil, v, 9, 9)
		isNone(t, err, len(l) == 0, api.ErrArg, "Search of no graph")
		l, err = ask.Search(&csr.Csr{}, v, 9, 9)
		isNone(t, err, len(l) == 0, api.ErrRange, "Search of a graph without nodes")
		n, err := ask.Reach(nil, v)
		isNone(t, err, n == 0, api.ErrArg, "Reach of no graph")
		n, err = ask.Reach(&csr.Csr{}, v)
		isNone(t, err, n == 0, api.ErrRange, "Reach of a graph without nodes")
	}
}

// TestOwn writes into answers: the graph, and the next answers, are as before.
func TestOwn(t *testing.T) {
	c := built(t, 4, list(0, 1, 1, 2, 0, 2, 2, 3, 1, 3))
	kept := c.List()
	for range 2 {
		l, _ := ask.Search(c, 0, 9, 9)
		p, _ := ask.Path(c, 0, 3)
		x, _ := ask.Common(c, 0, 1)
		if !slices.Equal(l, []ask.Met{{Node: 0}, {Node: 1, Far: 1}, {Node: 2, Far: 1}, {Node: 3, Far: 2}}) || !slices.Equal(p, []int{0, 1, 3}) || !slices.Equal(x, []int{2}) {
			t.Errorf("Search, Path, Common: %v, %v, %v", l, p, x)
		}
		for _, y := range [][]int{p[:cap(p)], x[:cap(x)]} {
			for i := range y {
				y[i] = 9
			}
		}
		l = l[:cap(l)]
		for i := range l {
			l[i] = ask.Met{Node: 9, Far: 9}
		}
	}
	if !slices.Equal(c.List(), kept) {
		t.Error("the graph isn't what it was")
	}
}

func TestSame(t *testing.T) {
	a := []ask.Met{{Node: 0, Far: 0}, {Node: 4, Far: 1}, {Node: 2, Far: 1}}
	for i, x := range []struct {
		a, b []ask.Met
		want bool
	}{
		{nil, nil, true},
		{nil, []ask.Met{}, true},
		{[]ask.Met{}, nil, true},
		{a, slices.Clone(a), true},
		{a, nil, false},
		{nil, a[:1], false},
		{a, a[:2], false},
		{a[:2], a, false},
		{a, a[1:], false},
		{a, []ask.Met{a[0], a[2], a[1]}, false},
		{a, []ask.Met{a[0], a[1], {Node: 3, Far: 1}}, false},
		{a, []ask.Met{a[0], a[1], {Node: 2, Far: 2}}, false},
		{a, []ask.Met{{Node: 1, Far: 0}, a[1], a[2]}, false},
	} {
		kept := slices.Clone(x.a)
		if got := ask.Same(x.a, x.b); got != x.want {
			t.Errorf("Same, pair %d: %v", i, got)
		}
		if !slices.Equal(x.a, kept) {
			t.Errorf("Same, pair %d: the list was written into", i)
		}
	}
}
