package walk_test

import (
	"errors"
	"fmt"
	"math"
	"slices"
	"testing"

	"lading/api"
	"lading/ask"
	"lading/block"
	"lading/csr"
	"lading/manifest"
	"lading/probe"
	"lading/shard"
	"lading/walk"
)

// All tests here are of promise P13.1.

const none = -1 // the distance of who isn't met, and no place

// far are numbers that are no node's, however many nodes there are.
var far = []int{-1, -2, -4096, 4096, 4097, 1 << 32, -1 << 32, 1<<32 + 1, math.MaxInt, math.MaxInt - 1, math.MinInt, math.MinInt + 1}

// failsWith: that error alone, in no fault.
func failsWith(t *testing.T, e error, want api.Errno, who string) {
	t.Helper()
	if n, plain := e.(api.Errno); !plain || n != want {
		t.Errorf("%s: error %d at %d (plain: %v), want %d at no place", who, api.Code(e), api.Place(e), plain, want)
	}
}

// graph is nodes and edges.
type graph struct {
	nodes int
	edges []api.Edge
}

// picker is numbers below n, one after the other, always the same ones.
func picker(seed uint32) func(n int) int {
	x := seed
	return func(n int) int {
		x = x*1664525 + 1013904223
		return int(x>>8) % n
	}
}

// random is a graph of some edges, in no order and some of them twice.
func random(seed uint32, nodes, many int) graph {
	g := graph{nodes: nodes}
	pick := picker(seed)
	for range many {
		g.edges = append(g.edges, api.Edge{From: pick(nodes), To: pick(nodes)})
	}
	return g
}

// ring is a graph each node of which leads to the next one, the last one to the first.
func ring(nodes int) graph {
	g := graph{nodes: nodes}
	for v := range nodes {
		g.edges = append(g.edges, api.Edge{From: v, To: (v + 1) % nodes})
	}
	return g
}

// star is a graph one of whose nodes has all as targets, and the others it alone.
func star(nodes, v int) graph {
	g := graph{nodes: nodes}
	for w := range nodes {
		g.edges = append(g.edges, api.Edge{From: v, To: w}, api.Edge{From: w, To: v})
	}
	return g
}

// ladder is a graph in which many ways are as long, and lead back, too.
func ladder(nodes int) graph {
	g := graph{nodes: nodes}
	for v := range nodes {
		g.edges = append(g.edges, api.Edge{From: v, To: (v + 1) % nodes}, api.Edge{From: v, To: 2 * v % nodes}, api.Edge{From: v, To: v / 3})
	}
	slices.Reverse(g.edges)
	return g
}

func graphs() []graph {
	l := []graph{{nodes: 1}, {nodes: 3}, {nodes: 1, edges: []api.Edge{{}}}, {nodes: 2, edges: []api.Edge{{From: 0, To: 1}}}}
	l = append(l, ring(9), ring(100), star(6, 2), star(150, 149), ladder(30), ladder(250))
	return append(l, random(1, 8, 9), random(2, 20, 30), random(3, 40, 300), random(4, 120, 200))
}

func (g graph) version(t *testing.T, number, each int) *manifest.Version {
	t.Helper()
	v, e := manifest.Make(number, g.nodes, each, g.edges...)
	if e != nil {
		t.Fatal(api.Code(e))
	}
	return v
}

// distances are from one node to all: edges are gone over, till none makes a distance less.
func (g graph) distances(from int) []int {
	d := slices.Repeat([]int{none}, g.nodes)
	d[from] = 0
	for again := true; again; {
		again = false
		for _, x := range g.edges {
			if d[x.From] != none && (d[x.To] == none || d[x.To] > d[x.From]+1) {
				d[x.To] = d[x.From] + 1
				again = true
			}
		}
	}
	return d
}

// seen is a node that a search without bounds meets, and the place in its list of the one through which it does.
type seen struct{ node, far, through int }

// model is whom a search without bounds meets, in order: by distances, each distance's nodes in the order of whom they're first met through.
func (g graph) model(from int) []seen {
	d := g.distances(from)
	place := map[int]int{from: 0}
	l := []seen{{node: from, through: none}}
	for k := 1; ; k++ {
		first := map[int]int{} // the least place of who leads there
		for _, x := range g.edges {
			if d[x.To] != k || d[x.From] != k-1 {
				continue
			}
			if p, is := first[x.To]; !is || place[x.From] < p {
				first[x.To] = place[x.From]
			}
		}
		if len(first) == 0 {
			return l
		}
		var level []seen
		for v, p := range first {
			level = append(level, seen{node: v, far: k, through: p})
		}
		slices.SortFunc(level, func(a, b seen) int { return slices.Compare([]int{a.through, a.node}, []int{b.through, b.node}) })
		for _, x := range level {
			place[x.node] = len(l)
			l = append(l, x)
		}
	}
}

// bounds are a search's.
type bounds struct{ depth, most int }

// after is who was met when so many nodes were read.
func after(l []seen, b bounds, read int) []ask.Met {
	var met []ask.Met
	for _, x := range l {
		if x.through < read && x.far <= b.depth && len(met) < b.most {
			met = append(met, ask.Met{Node: x.node, Far: x.far})
		}
	}
	return met
}

// readings is which nodes are read till the search is done, in order.
func readings(l []seen, b bounds) []int {
	var nodes []int
	for i, x := range l {
		if x.far >= b.depth || len(after(l, b, i)) >= b.most {
			break
		}
		nodes = append(nodes, x.node)
	}
	return nodes
}

// someBounds are of all kinds, for whom a search without bounds meets.
func someBounds(l []seen) []bounds {
	var all []bounds
	deepest := l[len(l)-1].far
	for _, depth := range []int{0, 1, 2, deepest - 1, deepest, deepest + 1, math.MaxInt} {
		for _, most := range []int{1, 2, 3, len(l) / 2, len(l) - 1, len(l), len(l) + 1, math.MaxInt} {
			if depth >= 0 && most >= 1 {
				all = append(all, bounds{depth, most})
			}
		}
	}
	return all
}

// asks is a source that keeps which blocks it was asked for, and fails whenever it is told to.
type asks struct {
	blocks []string
	l      []int
	fails  func(i int) error
}

func (a *asks) tell(i int) (string, error) {
	a.l = append(a.l, i)
	if a.fails != nil {
		if e := a.fails(i); e != nil {
			return "", e
		}
	}
	return block.Of(a.blocks...)(i)
}

// taken are the blocks it was asked for since this was asked last.
func (a *asks) taken() []int {
	l := a.l
	a.l = nil
	return l
}

func newProbe(t *testing.T, m api.Manifest, src block.Source) *probe.Probe {
	t.Helper()
	p, e := probe.New(m, src)
	if p == nil || e != nil {
		t.Fatalf("probe.New: error %d at %d", api.Code(e), api.Place(e))
	}
	return p
}

func newWalk(t *testing.T, p *probe.Probe, from int, b bounds) *walk.Walk {
	t.Helper()
	w, e := walk.New(p, from, b.depth, b.most)
	if w == nil || e != nil {
		t.Fatalf("New: error %d at %d", api.Code(e), api.Place(e))
	}
	return w
}

// stands asks for all that a walk tells without going on.
func stands(t *testing.T, w *walk.Walk, met []ask.Met, read int, done bool, who string) {
	t.Helper()
	if l := w.Met(); !slices.Equal(l, met) || w.Read() != read || w.Done() != done {
		t.Errorf("%s: Met %.200s, Read %d, Done %v; want %.200s, %d, %v", who, fmt.Sprint(l), w.Read(), w.Done(), fmt.Sprint(met), read, done)
	}
}

// steps are a walk's, one by one, each of which reads just the blocks of its node's shard.
func steps(t *testing.T, l []seen, a *asks, p *probe.Probe, b bounds) {
	t.Helper()
	from := l[0].node
	nodes := readings(l, b)
	w := newWalk(t, p, from, b)
	who := fmt.Sprintf("%d nodes, from %d, depth %d, most %d", p.Nodes, from, b.depth, b.most)
	for i, v := range nodes {
		stands(t, w, after(l, b, i), i, false, who)
		if n := a.taken(); len(n) != 0 {
			t.Errorf("%s: asked for %v ahead of step %d", who, n, i)
		}
		if read, e := w.Step(); !read || e != nil {
			t.Fatalf("%s: Step %d: %v, error %d", who, i, read, api.Code(e))
		}
		first, last, _ := p.Needs(v)
		if n := a.taken(); len(n) != last-first+1 || n[0] != first {
			t.Errorf("%s: step %d (node %d) asked for %v, want %d to %d", who, i, v, n, first, last)
		}
	}
	for range 2 {
		stands(t, w, after(l, b, len(nodes)), len(nodes), true, who)
		if read, e := w.Step(); read || e != nil {
			t.Errorf("%s: Step of what is done: %v, error %d", who, read, api.Code(e))
		}
		if n, e := w.Run(9); n != 0 || e != nil || len(a.taken()) != 0 {
			t.Errorf("%s: Run of what is done: %d, error %d", who, n, api.Code(e))
		}
	}
}

func TestStepsMeetWhomTheSearchMeets(t *testing.T) {
	for _, g := range graphs() {
		for _, each := range []int{8, 100} {
			v := g.version(t, 3, each)
			a := &asks{blocks: v.List}
			p := newProbe(t, v.Manifest, a.tell)
			for from := 0; from < g.nodes; from += 1 + g.nodes/3 {
				l := g.model(from)
				for _, b := range someBounds(l) {
					steps(t, l, a, p, b)
				}
			}
		}
	}
}

// TestRunIsSteps: as many as are asked for, or as are left.
func TestRunIsSteps(t *testing.T) {
	for _, g := range graphs() {
		v := g.version(t, 3, 20)
		p := newProbe(t, v.Manifest, block.Of(v.List...))
		l := g.model(0)
		for _, b := range someBounds(l) {
			all := len(readings(l, b))
			for _, each := range []int{1, 2, 3, 7, all - 1, all, all + 1, 4096, 1 << 32, math.MaxInt} {
				who := fmt.Sprintf("%d nodes, depth %d, most %d, by %d", g.nodes, b.depth, b.most, each)
				w := newWalk(t, p, 0, b)
				for read := 0; each > 0; {
					n, e := w.Run(each)
					if want := min(each, all-read); n != want || e != nil {
						t.Fatalf("%s: Run: %d, error %d, want %d", who, n, api.Code(e), want)
					}
					read += n
					stands(t, w, after(l, b, read), read, read == all, who)
					if n < each {
						break
					}
				}
			}
		}
	}
}

func TestNoStepsAreNone(t *testing.T) {
	g := ladder(30)
	v := g.version(t, 3, 8)
	a := &asks{blocks: v.List}
	w := newWalk(t, newProbe(t, v.Manifest, a.tell), 1, bounds{5, 20})
	for _, n := range []int{0, -1, -2, -1 << 32, math.MinInt, math.MinInt + 1} {
		if read, e := w.Run(n); read != 0 || e != nil || len(a.taken()) != 0 {
			t.Errorf("Run(%d): %d, error %d", n, read, api.Code(e))
		}
		stands(t, w, []ask.Met{{Node: 1}}, 0, false, fmt.Sprint("Run of ", n))
	}
}

// TestDoneItIsTheSearch: of graphs up to the most nodes, and edges.
func TestDoneItIsTheSearch(t *testing.T) {
	for _, g := range []graph{ring(4096), star(4096, 77), ladder(4096), random(5, 4096, 20000), random(6, 150, 20000), {nodes: 4096}} {
		v := g.version(t, 1<<40, 64)
		p := newProbe(t, v.Manifest, block.Of(v.List...))
		c, e := csr.Build(g.nodes, g.edges)
		if e != nil {
			t.Fatal(api.Code(e))
		}
		for _, b := range []bounds{{math.MaxInt, math.MaxInt}, {4096, 4096}, {3, 1000}, {9, 17}} {
			w := newWalk(t, p, g.nodes-1, b)
			if _, e := w.Run(math.MaxInt); e != nil {
				t.Fatal(api.Code(e))
			}
			want, _ := ask.Search(c, g.nodes-1, b.depth, b.most)
			if !w.Done() || len(want) == 0 || !ask.Same(w.Met(), want) {
				t.Errorf("%d nodes, %d edges, depth %d, most %d: %d met, done: %v; want %d", g.nodes, len(g.edges), b.depth, b.most, len(w.Met()), w.Done(), len(want))
			}
		}
	}
}

// TestTheSecondStepOfTheExampleIsTheLast: 0>1, from 0.
func TestTheSecondStepOfTheExampleIsTheLast(t *testing.T) {
	g := graph{nodes: 2, edges: []api.Edge{{From: 0, To: 1}}}
	v := g.version(t, 1, 8)
	p := newProbe(t, v.Manifest, block.Of(v.List...))
	w := newWalk(t, p, 0, bounds{9, 9})
	for i := range 2 {
		stands(t, w, []ask.Met{{Node: 0}, {Node: 1, Far: 1}}[:i+1], i, false, "0>1")
		if read, e := w.Step(); !read || e != nil {
			t.Errorf("Step %d: %v, error %d", i, read, api.Code(e))
		}
	}
	stands(t, w, []ask.Met{{Node: 0}, {Node: 1, Far: 1}}, 2, true, "0>1")
}

// errs are what a source may tell.
func errs() []error {
	return []error{api.ErrNone, api.ErrProof, api.ErrArg, api.Fault{At: 77, Err: api.ErrForm}, errors.New("no number"), errors.Join(api.ErrDown, api.ErrNone)}
}

// TestWhatFailsMayBeTriedAgain: a step that fails tells just what the probe does, and leaves all as it was, however often.
func TestWhatFailsMayBeTriedAgain(t *testing.T) {
	for _, g := range []graph{ladder(30), star(300, 299), random(3, 40, 300), ring(9)} {
		v := g.version(t, 3, 8)
		for _, err := range errs() {
			a := &asks{blocks: v.List}
			p := newProbe(t, v.Manifest, a.tell)
			l := g.model(1)
			b := bounds{4, g.nodes - 2}
			nodes := readings(l, b)
			w := newWalk(t, p, 1, b)
			for i, node := range nodes {
				first, last, _ := p.Needs(node)
				for lack := first; lack <= last; lack++ {
					a.fails = func(n int) error {
						if n == lack {
							return err
						}
						return nil
					}
					_, want := p.Targets(node)
					failing(t, w, want, func() { stands(t, w, after(l, b, i), i, false, fmt.Sprint("block ", lack, " lacks")) })
				}
				a.fails = nil
				if read, e := w.Step(); !read || e != nil {
					t.Fatalf("Step %d: %v, error %d", i, read, api.Code(e))
				}
			}
			stands(t, w, after(l, b, len(nodes)), len(nodes), true, "tried again")
		}
	}
}

// failing steps and runs, some times each: nothing is told but the error.
func failing(t *testing.T, w *walk.Walk, want error, asItWas func()) {
	t.Helper()
	for range 2 {
		read, e := w.Step()
		if read || !same(e, want) {
			t.Errorf("Step that fails: %v, error %d at %d; want %d at %d", read, api.Code(e), api.Place(e), api.Code(want), api.Place(want))
		}
		asItWas()
		n, e := w.Run(5)
		if n != 0 || !same(e, want) {
			t.Errorf("Run that fails: %d, error %d at %d; want %d at %d", n, api.Code(e), api.Place(e), api.Code(want), api.Place(want))
		}
		asItWas()
		if n, e := w.Run(0); n != 0 || e != nil {
			t.Errorf("Run of no steps, of which the first would fail: %d, error %d", n, api.Code(e))
		}
	}
}

// same: both are errors, and tell the same.
func same(e, want error) bool {
	if e == nil || want == nil {
		return false
	}
	return api.Code(e) == api.Code(want) && api.Place(e) == api.Place(want) && fmt.Sprintf("%#v", e) == fmt.Sprintf("%#v", want)
}

// TestRunTellsTheFirstError: what was read up to there stays.
func TestRunTellsTheFirstError(t *testing.T) {
	g := ladder(500)
	v := g.version(t, 3, 16)
	l := g.model(7)
	b := bounds{6, 400}
	nodes := readings(l, b)
	for lack := range v.Blocks {
		a := &asks{blocks: v.List, fails: func(i int) error {
			if i == lack {
				return api.ErrProof
			}
			return nil
		}}
		p := newProbe(t, v.Manifest, a.tell)
		read := slices.IndexFunc(nodes, func(node int) bool {
			first, last, _ := p.Needs(node)
			return first <= lack && lack <= last
		})
		w := newWalk(t, p, 7, b)
		n, e := w.Run(4096)
		if read < 0 {
			if n != len(nodes) || e != nil || !w.Done() {
				t.Errorf("Run without block %d: %d, error %d, want %d", lack, n, api.Code(e), len(nodes))
			}
			continue
		}
		if x, placed := e.(api.Fault); n != 0 || !placed || x.At != lack || x.Err != error(api.ErrProof) {
			t.Errorf("Run without block %d: %d, error %d at %d", lack, n, api.Code(e), api.Place(e))
		}
		stands(t, w, after(l, b, read), read, false, fmt.Sprint("without block ", lack))
		a.fails = nil
		if n, e := w.Run(4096); n != len(nodes)-read || e != nil {
			t.Errorf("Run when block %d is there: %d, error %d, want %d", lack, n, api.Code(e), len(nodes)-read)
		}
		stands(t, w, after(l, b, len(nodes)), len(nodes), true, fmt.Sprint("block ", lack, " is there"))
	}
}

// TestHoweverOftenItIsTried: blocks fail now and then, by no rule that the walk could know.
func TestHoweverOftenItIsTried(t *testing.T) {
	for seed, g := range []graph{ladder(200), random(8, 100, 900), star(150, 3), ring(60)} {
		v := g.version(t, 3, 9)
		pick := picker(uint32(seed))
		a := &asks{blocks: v.List, fails: func(int) error {
			if pick(3) == 0 {
				return api.ErrNone
			}
			return nil
		}}
		l := g.model(5)
		b := bounds{30, 140}
		w := newWalk(t, newProbe(t, v.Manifest, a.tell), 5, b)
		for tried := 0; !w.Done(); tried++ {
			was := w.Read()
			n, e := w.Run(1 + pick(4))
			if e == nil && w.Read() != was+n || e != nil && n != 0 || tried > 1<<20 {
				t.Fatalf("Run: %d, error %d: %d read, then %d", n, api.Code(e), was, w.Read())
			}
			stands(t, w, after(l, b, w.Read()), w.Read(), w.Read() == len(readings(l, b)), "now and then")
		}
	}
}

// TestWhatIsSpoiltIsNotMet: through a guard it is told, and tried again.
func TestWhatIsSpoiltIsNotMet(t *testing.T) {
	g := random(3, 40, 300)
	v := g.version(t, 3, 8)
	spoilt := slices.Clone(v.List)
	for i := range spoilt {
		spoilt[i] = "\xff" + spoilt[i][1:]
	}
	leaves := probe.Leaves(v.List...)
	guarded := newProbe(t, v.Manifest, probe.Guard(leaves, block.Of(spoilt...)))
	w := newWalk(t, guarded, 0, bounds{9, 40})
	_, want := guarded.Targets(0)
	if api.Code(want) != int(api.ErrProof) {
		t.Fatal(api.Code(want))
	}
	failing(t, w, want, func() { stands(t, w, []ask.Met{{}}, 0, false, "spoilt") })
	bare := newProbe(t, v.Manifest, block.Of(spoilt...))
	_, want = bare.Targets(0)
	if api.Code(want) != int(api.ErrGraph) {
		t.Fatal(api.Code(want))
	}
	if e := w.With(bare); e != nil {
		t.Fatal(api.Code(e))
	}
	failing(t, w, want, func() { stands(t, w, []ask.Met{{}}, 0, false, "spoilt") })
	panics := newProbe(t, v.Manifest, func(int) (string, error) { panic("no block") })
	_, want = panics.Targets(0)
	if e := w.With(panics); e != nil {
		t.Fatal(api.Code(e))
	}
	failing(t, w, want, func() { stands(t, w, []ask.Met{{}}, 0, false, "panics") })
	if e := w.With(newProbe(t, v.Manifest, block.Of(v.List...))); e != nil {
		t.Fatal(api.Code(e))
	}
	if _, e := w.Run(40); e != nil || !slices.Equal(w.Met(), after(g.model(0), bounds{9, 40}, 40)) {
		t.Errorf("behind what was spoilt: error %d, %v", api.Code(e), w.Met())
	}
}

func TestWhatNewRefuses(t *testing.T) {
	g := ladder(30)
	v := g.version(t, 3, 8)
	a := &asks{blocks: v.List}
	p := newProbe(t, v.Manifest, a.tell)
	refused := func(p *probe.Probe, from, depth, most int, want api.Errno) {
		t.Helper()
		w, e := walk.New(p, from, depth, most)
		who := fmt.Sprintf("New(nil: %v, %d, %d, %d)", p == nil, from, depth, most)
		failsWith(t, e, want, who)
		if w != nil {
			t.Error(who, "told a walk, too")
		}
	}
	for _, from := range append([]int{30, 31, 64}, far...) {
		refused(p, from, 0, 1, api.ErrRange)
		refused(p, from, math.MaxInt, math.MaxInt, api.ErrRange)
		refused(p, from, -1, 1, api.ErrArg)
		refused(p, from, 1, 0, api.ErrArg)
		refused(nil, from, 1, 1, api.ErrArg)
	}
	for _, n := range []int{-1, -2, -1 << 32, math.MinInt, math.MinInt + 1} {
		refused(p, 1, n, 9, api.ErrArg)
		refused(p, 1, 9, n, api.ErrArg)
	}
	refused(p, 1, 9, 0, api.ErrArg)
	refused(nil, 1, 9, 9, api.ErrArg)
	refused(&probe.Probe{}, 1, 9, 9, api.ErrArg)
	refused(&probe.Probe{Manifest: v.Manifest}, 1, 9, 9, api.ErrArg)
	empty := graph{}.version(t, 3, 8)
	for _, from := range append([]int{0, 1}, far...) {
		refused(newProbe(t, empty.Manifest, block.Of()), from, 9, 9, api.ErrRange)
	}
	if len(a.l) != 0 {
		t.Errorf("New asked for blocks %v", a.l)
	}
	for _, from := range []int{0, 1, 29} {
		w := newWalk(t, p, from, bounds{0, 1})
		stands(t, w, []ask.Met{{Node: from}}, 0, true, "depth 0, most 1")
		w = newWalk(t, p, from, bounds{1, 2})
		stands(t, w, []ask.Met{{Node: from}}, 0, false, "depth 1, most 2")
	}
}

// TestWhatNoneTells: nil, and one that New didn't make.
func TestWhatNoneTells(t *testing.T) {
	g := ladder(30)
	v := g.version(t, 3, 8)
	p := newProbe(t, v.Manifest, block.Of(v.List...))
	for _, w := range []*walk.Walk{nil, {}} {
		for range 2 {
			stands(t, w, nil, 0, true, "none")
			read, e := w.Step()
			failsWith(t, e, api.ErrArg, "Step")
			if read {
				t.Error("none read a node")
			}
			for _, steps := range []int{-1, 0, 1, math.MaxInt} {
				n, e := w.Run(steps)
				failsWith(t, e, api.ErrArg, "Run")
				if n != 0 {
					t.Error("none read", n)
				}
			}
			failsWith(t, w.With(p), api.ErrArg, "With")
			failsWith(t, w.With(nil), api.ErrArg, "With nil")
		}
	}
}

// TestWithAnotherProbeItGoesOn: of the same manifest, but for the version; at any time, also when it is done.
func TestWithAnotherProbeItGoesOn(t *testing.T) {
	g := ladder(200)
	l := g.model(2)
	b := bounds{8, 150}
	nodes := readings(l, b)
	v := g.version(t, 3, 8)
	for change := range len(nodes) + 1 {
		first := &asks{blocks: v.List}
		w := newWalk(t, newProbe(t, v.Manifest, first.tell), 2, b)
		if n, e := w.Run(change); n != change || e != nil {
			t.Fatal(n, api.Code(e))
		}
		for _, number := range []int{3, 1, 1 << 40} {
			m := g.version(t, number, 8).Manifest
			if e := w.With(newProbe(t, m, first.tell)); e != nil {
				t.Fatalf("With version %d: error %d", number, api.Code(e))
			}
		}
		first.fails = func(int) error { return api.ErrNone }
		first.taken()
		second := &asks{blocks: v.List}
		p := newProbe(t, v.Manifest, second.tell)
		if e := w.With(p); e != nil {
			t.Fatalf("With: error %d", api.Code(e))
		}
		stands(t, w, after(l, b, change), change, change == len(nodes), "With")
		if len(second.l) != 0 {
			t.Errorf("With asked for %v", second.l)
		}
		if n, e := w.Run(4096); n != len(nodes)-change || e != nil || len(first.l) != 0 || p.Asked() != len(second.l) {
			t.Errorf("Run with another probe, behind %d: %d, error %d; the first one was asked for %v", change, n, api.Code(e), first.l)
		}
		stands(t, w, after(l, b, len(nodes)), len(nodes), true, "With, then Run")
	}
}

// others are manifests that may be, each with one of its numbers another one.
func others(t *testing.T, m api.Manifest) []api.Manifest {
	t.Helper()
	var l []api.Manifest
	change := func(how func(x *api.Manifest)) {
		x := manifest.Copy(m)
		how(&x)
		if e := manifest.Check(x); e != nil {
			t.Fatal(api.Code(e), api.Place(e))
		}
		l = append(l, x)
	}
	change(func(x *api.Manifest) { x.Nodes++ })
	change(func(x *api.Manifest) { x.Edges++ })
	change(func(x *api.Manifest) { x.Edges-- })
	change(func(x *api.Manifest) { x.Shards[1].First++ })
	change(func(x *api.Manifest) { x.Shards[1].Bytes++; x.Shards[2].Bytes-- })
	change(func(x *api.Manifest) { x.Shards[0].Bytes += 64; x.Blocks++ })
	change(func(x *api.Manifest) {
		last := len(x.Shards) - 1
		x.Shards[last-1].Bytes += x.Shards[last].Bytes
		x.Shards = x.Shards[:last]
	})
	for i := range m.Root {
		change(func(x *api.Manifest) { x.Root = x.Root[:i] + string([]byte{x.Root[i] ^ 1}) + x.Root[i+1:] })
	}
	return l
}

func TestWhatWithRefuses(t *testing.T) {
	g := ladder(30)
	v := g.version(t, 3, 8)
	first := &asks{blocks: v.List}
	b := bounds{5, 20}
	l := g.model(1)
	w := newWalk(t, newProbe(t, v.Manifest, first.tell), 1, b)
	if n, e := w.Run(2); n != 2 || e != nil {
		t.Fatal(n, api.Code(e))
	}
	first.taken()
	second := &asks{blocks: v.List}
	refused := func(p *probe.Probe, who string) {
		t.Helper()
		failsWith(t, w.With(p), api.ErrArg, who)
		stands(t, w, after(l, b, 2), 2, false, who)
	}
	refused(nil, "With nil")
	refused(&probe.Probe{}, "With one that is none")
	refused(&probe.Probe{Manifest: v.Manifest}, "With one without a source")
	for i, m := range others(t, v.Manifest) {
		refused(newProbe(t, m, second.tell), fmt.Sprint("With another manifest, ", i))
		m.Version = 9
		refused(newProbe(t, m, second.tell), fmt.Sprint("With another manifest and version, ", i))
	}
	for _, o := range []*manifest.Version{graph{}.version(t, 3, 8), ring(30).version(t, 3, 8), g.version(t, 3, 9), g.version(t, 4, 10)} {
		refused(newProbe(t, o.Manifest, block.Of(o.List...)), "With another version")
	}
	if n, e := w.Run(3); n != 3 || e != nil || len(first.l) == 0 || len(second.l) != 0 {
		t.Errorf("Run behind what was refused: %d, error %d: asked for %v, and %v", n, api.Code(e), first.l, second.l)
	}
	stands(t, w, after(l, b, 5), 5, false, "behind what was refused")
	if _, e := w.Run(4096); e != nil {
		t.Fatal(api.Code(e))
	}
	refused = func(p *probe.Probe, who string) {
		t.Helper()
		failsWith(t, w.With(p), api.ErrArg, who)
	}
	refused(nil, "With nil, done")
	refused(newProbe(t, others(t, v.Manifest)[1], second.tell), "With another manifest, done")
}

// TestWhatIsToldIsTheCallersOwn: what is written into it isn't met.
func TestWhatIsToldIsTheCallersOwn(t *testing.T) {
	g := ladder(30)
	v := g.version(t, 3, 8)
	w := newWalk(t, newProbe(t, v.Manifest, block.Of(v.List...)), 1, bounds{5, 20})
	l := g.model(1)
	for i := 0; !w.Done(); i++ {
		met := w.Met()
		for k := range met {
			met[k] = ask.Met{Node: -1, Far: 99}
		}
		_ = append(met, ask.Met{Node: 3, Far: 3})
		if read, e := w.Step(); !read || e != nil {
			t.Fatal(read, api.Code(e))
		}
		stands(t, w, after(l, bounds{5, 20}, i+1), i+1, w.Done(), "written into")
	}
}

// TestWalksAreTheirOwn: two over one probe, turn by turn.
func TestWalksAreTheirOwn(t *testing.T) {
	g := ladder(100)
	v := g.version(t, 3, 8)
	p := newProbe(t, v.Manifest, block.Of(v.List...))
	a, b := bounds{5, 20}, bounds{3, 90}
	x, y := newWalk(t, p, 1, a), newWalk(t, p, 50, b)
	for i := range 5 {
		stands(t, x, after(g.model(1), a, i), i, false, "the one")
		stands(t, y, after(g.model(50), b, 2*i), 2*i, false, "the other")
		if _, e := x.Step(); e != nil {
			t.Fatal(api.Code(e))
		}
		if n, e := y.Run(2); n != 2 || e != nil {
			t.Fatal(n, api.Code(e))
		}
	}
}

// TestShardsOfAnyLength: all ways to split a graph lead the same way.
func TestShardsOfAnyLength(t *testing.T) {
	g := random(9, 60, 400)
	c, _ := csr.Build(g.nodes, g.edges)
	b := bounds{4, 50}
	want := after(g.model(11), b, g.nodes)
	for each := 1; each <= 60; each++ {
		if _, e := shard.Split(c, each); e != nil {
			continue
		}
		v := g.version(t, each, each)
		w := newWalk(t, newProbe(t, v.Manifest, block.Of(v.List...)), 11, b)
		if _, e := w.Run(60); e != nil || !slices.Equal(w.Met(), want) {
			t.Errorf("split by %d: error %d, %v, want %v", each, api.Code(e), w.Met(), want)
		}
	}
	if len(want) < 20 {
		t.Errorf("just %d are met", len(want))
	}
}
