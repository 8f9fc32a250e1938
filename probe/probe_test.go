package probe_test

import (
	"crypto/sha256"
	"errors"
	"fmt"
	"math"
	"slices"
	"strings"
	"testing"
	"unsafe"

	"lading/api"
	"lading/block"
	"lading/csr"
	"lading/manifest"
	"lading/probe"
	"lading/shard"
)

// All tests here are of promise P12.1.

const noPlace = -1

// far are numbers of which no node is one, nor a block.
var far = []int{-1, -2, -1 << 32, 4096, 4097, 1 << 20, 1 << 32, 1 << 57, math.MaxInt, math.MaxInt - 63, math.MinInt, math.MinInt + 1}

// leafOf is what another SHA-256 makes of a byte 0 and a block.
func leafOf(s string) string {
	d := sha256.Sum256([]byte("\x00" + s))
	return string(d[:])
}

// failsWith: an error of that number, in a fault at that place (noPlace: in none).
func failsWith(t *testing.T, e error, want api.Errno, at int, who string) {
	t.Helper()
	x, placed := e.(api.Fault)
	if placed {
		e = x.Err
	}
	n, plain := e.(api.Errno)
	if placed != (at != noPlace) || placed && x.At != at || !plain || n != want {
		t.Errorf("%s: error %d (placed: %v, at %d), want %d at %d", who, api.Code(e), placed, x.At, want, at)
	}
}

// isNoGraph: ErrGraph, joined with that error alone.
func isNoGraph(t *testing.T, e, with error, who string) {
	t.Helper()
	x, joined := e.(interface{ Unwrap() []error })
	if !joined || len(x.Unwrap()) != 2 || x.Unwrap()[0] != error(api.ErrGraph) || x.Unwrap()[1] != with {
		t.Errorf("%s: error %d at %d (joined: %v), want one joined with %d at %d", who, api.Code(e), api.Place(e), joined, api.Code(with), api.Place(with))
	}
	if api.Code(e) != int(api.ErrGraph) || !errors.Is(e, api.ErrGraph) || api.Place(e) != api.Place(with) {
		t.Errorf("%s: error %d at %d, want ErrGraph at %d", who, api.Code(e), api.Place(e), api.Place(with))
	}
}

// asks is a source that keeps which blocks it was asked for.
type asks struct {
	blocks []string
	l      []int
}

func (a *asks) tell(i int) (string, error) {
	a.l = append(a.l, i)
	if i < 0 || i >= len(a.blocks) {
		return "", api.ErrNone
	}
	return a.blocks[i], nil
}

// taken are the blocks it was asked for since this was asked last.
func (a *asks) taken() []int {
	l := a.l
	a.l = nil
	return l
}

// run are the numbers from one to another one.
func run(first, last int) []int {
	var l []int
	for i := first; i <= last; i++ {
		l = append(l, i)
	}
	return l
}

func newProbe(t *testing.T, m api.Manifest, src block.Source) *probe.Probe {
	t.Helper()
	p, e := probe.New(m, src)
	if p == nil || e != nil {
		t.Fatalf("New: error %d at %d", api.Code(e), api.Place(e))
	}
	return p
}

// graph is nodes and edges.
type graph struct {
	nodes int
	edges []api.Edge
}

// rows are each node's targets, found edge by edge.
func (g graph) rows() [][]int {
	l := make([][]int, g.nodes)
	for _, x := range g.edges {
		if !slices.Contains(l[x.From], x.To) {
			l[x.From] = append(l[x.From], x.To)
		}
	}
	for v := range l {
		slices.Sort(l[v])
	}
	return l
}

func (g graph) version(t *testing.T, each int) *manifest.Version {
	t.Helper()
	v, e := manifest.Make(3, g.nodes, each, g.edges...)
	if e != nil {
		t.Fatal(api.Code(e))
	}
	return v
}

func (g graph) csr(t *testing.T) *csr.Csr {
	t.Helper()
	c, e := csr.Build(g.nodes, g.edges)
	if e != nil {
		t.Fatal(api.Code(e))
	}
	return c
}

// grid is a graph whose nodes have some targets each, the edges in no order and some of them twice.
func grid(nodes, each, step int) graph {
	g := graph{nodes: nodes}
	for k := range each {
		for v := range nodes {
			g.edges = append(g.edges, api.Edge{From: v, To: (v*step + 7*k) % nodes})
		}
	}
	slices.Reverse(g.edges)
	return g
}

// star is a graph one of whose nodes has all as targets, and the others it alone.
func star(nodes, v int) graph {
	g := graph{nodes: nodes}
	for w := range nodes {
		g.edges = append(g.edges, api.Edge{From: v, To: w}, api.Edge{From: w, To: v})
	}
	return g
}

func graphs() []graph {
	l := []graph{{nodes: 0}, {nodes: 1}, {nodes: 2}, {nodes: 1, edges: []api.Edge{{}}}, {nodes: 300}, {nodes: 4096}}
	l = append(l, grid(7, 3, 2), grid(40, 6, 3), grid(64, 5, 1), grid(200, 9, 11), grid(1000, 20, 3))
	return append(l, star(5, 2), star(2000, 1999), star(4096, 77))
}

// cuts are by how many nodes a graph may be split.
func (g graph) cuts() []int {
	l := []int{1, 3, 7, 8, 9, 16, 64, 100, 4096, math.MaxInt}
	return slices.DeleteFunc(l, func(each int) bool { return g.nodes > 64*min(each, 4096) })
}

func TestTargetsAreTheGraphs(t *testing.T) {
	for _, g := range graphs() {
		rows := g.rows()
		for _, each := range g.cuts() {
			v := g.version(t, each)
			a := &asks{blocks: v.List}
			p := newProbe(t, v.Manifest, a.tell)
			for x := 0; x < g.nodes; x += 1 + g.nodes/300 {
				who := fmt.Sprintf("node %d of %d, split by %d", x, g.nodes, each)
				if l, e := p.Targets(x); !slices.Equal(l, rows[x]) || e != nil {
					t.Errorf("Targets of %s: %v, error %d; want %v", who, l, api.Code(e), rows[x])
				}
				first := a.taken()
				if n, e := p.Degree(x); n != len(rows[x]) || e != nil {
					t.Errorf("Degree of %s: %d, error %d; want %d", who, n, api.Code(e), len(rows[x]))
				}
				if second := a.taken(); !slices.Equal(first, second) || len(first) == 0 {
					t.Errorf("Targets of %s asks for %v, Degree for %v", who, first, second)
				}
			}
		}
	}
}

// TestJustTheShardsBlocksAreAskedFor: those in which its bytes lie, each once, by rising numbers.
func TestJustTheShardsBlocksAreAskedFor(t *testing.T) {
	for _, g := range graphs() {
		for _, each := range g.cuts() {
			v := g.version(t, each)
			a := &asks{blocks: v.List}
			p := newProbe(t, v.Manifest, a.tell)
			asked, begin := 0, 0
			for i, x := range v.Shards {
				first, last := begin/64, (begin+x.Bytes-1)/64
				begin += x.Bytes
				end := g.nodes
				if i+1 < len(v.Shards) {
					end = v.Shards[i+1].First
				}
				for _, node := range []int{x.First, (x.First + end) / 2, end - 1} {
					if n, m, e := p.Needs(node); n != first || m != last || e != nil || len(a.l) != 0 {
						t.Errorf("Needs(%d): %d, %d, error %d (asked for %v); want %d, %d", node, n, m, api.Code(e), a.taken(), first, last)
					}
					p.Targets(node)
					if l := a.taken(); !slices.Equal(l, run(first, last)) {
						t.Errorf("Targets(%d) asks for %v, want %d to %d", node, l, first, last)
					}
					p.Degree(node)
					if l := a.taken(); !slices.Equal(l, run(first, last)) {
						t.Errorf("Degree(%d) asks for %v, want %d to %d", node, l, first, last)
					}
					if asked += 2 * (last - first + 1); p.Asked() != asked || p.Asked() != asked {
						t.Errorf("Asked(): %d, want %d", p.Asked(), asked)
					}
				}
			}
		}
	}
}

func TestAllIsTheGraph(t *testing.T) {
	for _, g := range graphs() {
		for _, each := range g.cuts() {
			v := g.version(t, each)
			a := &asks{blocks: v.List}
			p := newProbe(t, v.Manifest, a.tell)
			for i := range 2 {
				c, e := p.All()
				if e != nil || !c.Same(g.csr(t)) {
					t.Errorf("All of %d nodes, split by %d: error %d", g.nodes, each, api.Code(e))
				}
				if l := a.taken(); !slices.Equal(l, run(0, v.Blocks-1)) || p.Asked() != (i+1)*v.Blocks {
					t.Errorf("All asks for %v, of %d blocks, Asked() is %d", l, v.Blocks, p.Asked())
				}
			}
		}
	}
}

func TestWhatNewRefuses(t *testing.T) {
	v := grid(40, 6, 3).version(t, 10)
	src := block.Of(v.List...)
	for at, c := range map[int]func(*api.Manifest){
		0:  func(m *api.Manifest) { m.Version = 0 },
		1:  func(m *api.Manifest) { m.Nodes = 4097 },
		2:  func(m *api.Manifest) { m.Edges = -1 },
		3:  func(m *api.Manifest) { m.Shards = nil },
		6:  func(m *api.Manifest) { m.Shards[1].First = 0 },
		7:  func(m *api.Manifest) { m.Shards[1].Bytes = 2 },
		12: func(m *api.Manifest) { m.Blocks++ },
		13: func(m *api.Manifest) { m.Root = m.Root[1:] },
	} {
		m := manifest.Copy(v.Manifest)
		c(&m)
		for _, s := range []block.Source{src, nil} { // Check's error ahead of ErrArg
			p, e := probe.New(m, s)
			failsWith(t, e, api.ErrForm, at, fmt.Sprintf("New of a manifest that is wrong at %d", at))
			if p != nil {
				t.Error("with an error a probe")
			}
		}
	}
	p, e := probe.New(v.Manifest, nil)
	failsWith(t, e, api.ErrArg, noPlace, "New without a source")
	if p != nil {
		t.Error("with an error a probe")
	}
}

func TestNodesThatArentThere(t *testing.T) {
	for _, g := range []graph{{nodes: 0}, {nodes: 1}, grid(40, 6, 3)} {
		v := g.version(t, 10)
		a := &asks{blocks: v.List}
		p := newProbe(t, v.Manifest, a.tell)
		for _, x := range append([]int{g.nodes, g.nodes + 1}, far...) {
			who := fmt.Sprintf("node %d of %d", x, g.nodes)
			l, e := p.Targets(x)
			failsWith(t, e, api.ErrRange, noPlace, "Targets of "+who)
			n, e := p.Degree(x)
			failsWith(t, e, api.ErrRange, noPlace, "Degree of "+who)
			first, last, e := p.Needs(x)
			failsWith(t, e, api.ErrRange, noPlace, "Needs of "+who)
			if len(l) != 0 || n != 0 || first != 0 || last != 0 || p.Asked() != 0 || len(a.l) != 0 {
				t.Errorf("with an error of %s: %v, %d, %d, %d, and %v asked for", who, l, n, first, last, a.l)
			}
		}
	}
}

// TestBlocksThatArentTold: the first error of a source is told at its block, behind which none is asked for.
func TestBlocksThatArentTold(t *testing.T) {
	g := grid(200, 9, 11)
	v := g.version(t, 50)
	own := errors.New("its own")
	for bad := range v.Blocks {
		wrong := map[error]block.Source{
			api.ErrForm:                  func(i int) (string, error) { return v.List[i] + "x", nil },
			api.ErrNone:                  func(i int) (string, error) { panic("no block") },
			own:                          func(i int) (string, error) { return v.List[i], own },
			api.Fault{At: 5, Err: own}:   func(i int) (string, error) { return "", api.Fault{At: 5, Err: own} },
			api.Fault{At: -7, Err: nil}:  func(i int) (string, error) { return "", api.Fault{At: -7} },
			api.Errno(api.ErrGraph):      func(i int) (string, error) { return "", api.ErrGraph },
			api.Fault{Err: api.ErrProof}: func(i int) (string, error) { return "", api.Fault{Err: api.ErrProof} },
		}
		for want, told := range wrong {
			a := &asks{blocks: v.List}
			p := newProbe(t, v.Manifest, func(i int) (string, error) {
				s, e := a.tell(i)
				if i >= bad {
					return told(i)
				}
				return s, e
			})
			for _, x := range []int{0, 49, 50, 75, 149, 150, 199} {
				first, last, _ := p.Needs(x)
				l, e := p.Targets(x)
				n, e2 := p.Degree(x)
				if bad > last {
					if e != nil || e2 != nil || len(l) != n || n == 0 {
						t.Errorf("block %d isn't needed for %d, error %d, %d", bad, x, api.Code(e), api.Code(e2))
					}
					a.taken()
					continue
				}
				at := api.Fault{At: max(first, bad), Err: want}
				if len(l) != 0 || n != 0 || e != error(at) || e2 != error(at) {
					t.Errorf("node %d without block %d: %v, %d, error %d at %d, %d at %d", x, bad, l, n, api.Code(e), api.Place(e), api.Code(e2), api.Place(e2))
				}
				if l := a.taken(); !slices.Equal(l, slices.Repeat(run(first, at.At), 2)) {
					t.Errorf("node %d without block %d: %v asked for, want %d to %d, twice", x, bad, l, first, at.At)
				}
			}
			asked := p.Asked()
			c, e := p.All()
			if c != nil || e != error(api.Fault{At: bad, Err: want}) || !slices.Equal(a.taken(), run(0, bad)) || p.Asked() != asked+bad+1 {
				t.Errorf("All without block %d: error %d at %d", bad, api.Code(e), api.Place(e))
			}
		}
	}
}

// made is a manifest, and the blocks, of any bytes as shards.
func made(nodes, edges int, firsts []int, shards ...string) (api.Manifest, []string) {
	m := api.Manifest{Version: 9, Nodes: nodes, Edges: edges, Root: strings.Repeat("r", 32)}
	all := ""
	for i, s := range shards {
		m.Shards = append(m.Shards, api.Shard{First: firsts[i], Bytes: len(s)})
		all += s
	}
	var blocks []string
	for ; len(all) > 0; all = all[len(blocks[len(blocks)-1]):] {
		blocks = append(blocks, all[:min(64, len(all))])
	}
	m.Blocks = len(blocks)
	return m, blocks
}

// readsAsLayer7: what is told of blocks that are all there is what layer 7 tells of the shards' bytes.
func readsAsLayer7(t *testing.T, m api.Manifest, blocks, shards []string) {
	t.Helper()
	p := newProbe(t, m, block.Of(blocks...))
	which := -1
	for x := range m.Nodes {
		if which+1 < len(m.Shards) && m.Shards[which+1].First == x {
			which++
		}
		who := fmt.Sprintf("node %d, in %q", x, shards[which])
		want, wrong := shard.Find(shards[which], m.Nodes, x)
		l, e := p.Targets(x)
		if wrong != nil {
			isNoGraph(t, e, wrong, "Targets of "+who)
		} else if e != nil {
			t.Errorf("Targets of %s: error %d at %d", who, api.Code(e), api.Place(e))
		}
		if !slices.Equal(l, want) {
			t.Errorf("Targets of %s: %v, want %v", who, l, want)
		}
		many, wrong := shard.Degree(shards[which], m.Nodes, x)
		n, e := p.Degree(x)
		if wrong != nil {
			isNoGraph(t, e, wrong, "Degree of "+who)
		} else if e != nil {
			t.Errorf("Degree of %s: error %d at %d", who, api.Code(e), api.Place(e))
		}
		if n != many {
			t.Errorf("Degree of %s: %d, want %d", who, n, many)
		}
	}
	allAsLayer7(t, p, shards)
}

func allAsLayer7(t *testing.T, p *probe.Probe, shards []string) {
	t.Helper()
	who := fmt.Sprintf("All of %q", shards)
	c, e := p.All()
	want, wrong := shard.Join(p.Nodes, shards...)
	if wrong != nil {
		isNoGraph(t, e, wrong, who)
	} else if table, _ := shard.Table(p.Nodes, shards...); !slices.Equal(table, p.Shards) || want.Edges() != p.Edges {
		failsWith(t, e, api.ErrGraph, noPlace, who)
	} else if e != nil || !c.Same(want) {
		t.Errorf("%s: error %d at %d", who, api.Code(e), api.Place(e))
	}
	if e != nil && c != nil {
		t.Errorf("%s: with an error a graph", who)
	}
}

// TestSpoiltShards: each byte another one.
func TestSpoiltShards(t *testing.T) {
	g := graph{nodes: 20, edges: []api.Edge{{From: 0, To: 19}, {From: 0, To: 3}, {From: 3, To: 0}, {From: 9, To: 9}, {From: 11, To: 1}, {From: 11, To: 18}, {From: 19, To: 0}}}
	good, e := shard.Split(g.csr(t), 11)
	if e != nil || len(good) != 2 {
		t.Fatal(e)
	}
	for i, s := range good {
		for at := range len(s) {
			for b := range 256 {
				l := slices.Clone(good)
				l[i] = s[:at] + string([]byte{byte(b)}) + s[at+1:]
				m, blocks := made(20, len(g.edges), []int{0, 11}, l...)
				readsAsLayer7(t, m, blocks, l)
			}
		}
	}
}

// TestShardsThatAreOthers: a node isn't in the bytes where the manifest says that it is.
func TestShardsThatAreOthers(t *testing.T) {
	c := grid(24, 2, 5).csr(t)
	put := func(first, many int) string {
		s, e := shard.Put(c, first, many)
		if e != nil {
			t.Fatal(e)
		}
		return s
	}
	for _, x := range []struct {
		firsts []int
		l      []string
	}{
		{[]int{0, 8, 16}, []string{put(0, 8), put(8, 8), put(16, 8)}},
		{[]int{0, 8, 16}, []string{put(0, 8), put(16, 8), put(8, 8)}},
		{[]int{0, 8, 16}, []string{put(8, 8), put(0, 8), put(16, 8)}},
		{[]int{0, 8, 16}, []string{put(0, 9), put(9, 7), put(16, 8)}}, // they join, but don't begin where the manifest says
		{[]int{0, 9, 16}, []string{put(0, 8), put(8, 8), put(16, 8)}},
		{[]int{0, 7, 16}, []string{put(0, 8), put(8, 8), put(16, 8)}},
		{[]int{0, 8, 15}, []string{put(0, 8), put(8, 8), put(16, 8)}},
		{[]int{0, 8, 16}, []string{put(0, 8), put(8, 8), put(16, 7)}},
		{[]int{0, 8, 16}, []string{put(0, 8), put(8, 8), put(8, 8)}},
		{[]int{0, 8, 16}, []string{put(0, 8), put(9, 7), put(16, 8)}},
		{[]int{0, 8, 16}, []string{put(1, 7), put(8, 8), put(16, 8)}},
		{[]int{0, 8}, []string{put(0, 8), put(8, 8)}},
		{[]int{0, 8}, []string{put(0, 8), put(8, 16)}},
		{[]int{0}, []string{put(0, 24)}},
		{[]int{0}, []string{put(0, 23)}},
		{[]int{0}, []string{put(1, 23)}},
		{[]int{0}, []string{"\x00\x00\x00"}},
		{[]int{0}, []string{"\xff\xff\xff"}},
	} {
		for _, edges := range []int{48, 47, 49, 0, 20000} {
			m, blocks := made(24, edges, x.firsts, x.l...)
			readsAsLayer7(t, m, blocks, x.l)
		}
	}
}

// TestWhatAllTells: by hand.
func TestWhatAllTells(t *testing.T) {
	good := []string{"\x00\x02\x00\x01\x00\x00", "\x02\x01\x00\x00"} // 0>0
	for _, x := range []struct {
		firsts       []int
		nodes, edges int
		l            []string
		want         int
		at           int
	}{
		{[]int{0, 2}, 3, 1, good, 0, noPlace},
		{[]int{0, 2}, 3, 0, good, 10, noPlace},
		{[]int{0, 2}, 3, 2, good, 10, noPlace},
		{[]int{0, 1}, 3, 1, good, 10, noPlace},
		{[]int{0, 1}, 4, 1, good, 10, 2}, // node 3 is left
		{[]int{0, 2}, 4, 0, good, 10, 2},
		{[]int{0, 1}, 3, 0, []string{good[1], good[0]}, 10, 0},
		{[]int{0, 2}, 3, 1, []string{good[0], good[0]}, 10, 1},
		{[]int{0, 2}, 3, 1, []string{good[0], good[1] + "\x00"}, 10, 1},
		{nil, 0, 0, nil, 0, noPlace},
		{nil, 0, 1, nil, 10, noPlace},
	} {
		m, blocks := made(x.nodes, x.edges, x.firsts, x.l...)
		c, e := newProbe(t, m, block.Of(blocks...)).All()
		if api.Code(e) != x.want || api.Place(e) != x.at || (c == nil) != (e != nil) {
			t.Errorf("All of %q, at %v, with %d nodes and %d edges: error %d at %d, want %d at %d", x.l, x.firsts, x.nodes, x.edges, api.Code(e), api.Place(e), x.want, x.at)
		}
	}
}

// TestTooManyEdges: each shard is one, but together they are no graph.
func TestTooManyEdges(t *testing.T) {
	row := "\x80\x20" + "\x00" + strings.Repeat("\x00", 4095)
	var l []string
	var firsts []int
	for i := range 64 {
		s := string([]byte{byte(i), 1, 0})
		if i < 6 { // this row from its node on goes back to 0: 2i - 1
			r := row
			if i > 0 {
				r = "\x80\x20" + string([]byte{byte(2*i - 1)}) + strings.Repeat("\x00", 4095)
			}
			s += r
		} else {
			s += "\x00"
		}
		l, firsts = append(l, s), append(firsts, i)
	}
	last, e := shard.Put(csrOf(t, 4096), 63, 4033)
	if e != nil {
		t.Fatal(e)
	}
	l[63] = last
	m, blocks := made(4096, 20000, firsts, l...)
	p := newProbe(t, m, block.Of(blocks...))
	for x := range 6 {
		if n, e := p.Degree(x); n != 4096 || e != nil {
			t.Fatalf("node %d: %d, error %d at %d", x, n, api.Code(e), api.Place(e))
		}
	}
	if _, wrong := shard.Join(4096, l...); wrong == nil {
		t.Fatal("they join")
	}
	allAsLayer7(t, p, l)
}

func csrOf(t *testing.T, nodes int) *csr.Csr { return graph{nodes: nodes}.csr(t) }

// TestThroughAGuardNothingElse: each bit of each block is turned; the graph is read, or the error tells the block.
func TestThroughAGuardNothingElse(t *testing.T) {
	g := grid(30, 3, 7)
	rows := g.rows()
	v := g.version(t, 4)
	leaves := probe.Leaves(v.List...)
	for bad, s := range v.List {
		for bit := range 8 * len(s) {
			b := []byte(s)
			b[bit/8] ^= 1 << (bit % 8)
			l := slices.Clone(v.List)
			l[bad] = string(b)
			p := newProbe(t, v.Manifest, probe.Guard(leaves, block.Of(l...)))
			for x := range g.nodes {
				first, last, _ := p.Needs(x)
				got, e := p.Targets(x)
				n, e2 := p.Degree(x)
				if bad < first || bad > last {
					if !slices.Equal(got, rows[x]) || n != len(rows[x]) || e != nil || e2 != nil {
						t.Fatalf("node %d: %v, %d, error %d, %d", x, got, n, api.Code(e), api.Code(e2))
					}
					continue
				}
				failsWith(t, e, api.ErrProof, bad, "Targets")
				failsWith(t, e2, api.ErrProof, bad, "Degree")
			}
			_, e := p.All()
			failsWith(t, e, api.ErrProof, bad, "All")
		}
	}
}

func TestOtherVersionsBlocksThroughAGuard(t *testing.T) {
	v, w := grid(100, 4, 3).version(t, 20), grid(100, 4, 9).version(t, 20)
	p := newProbe(t, v.Manifest, probe.Guard(probe.Leaves(v.List...), block.Of(w.List...)))
	for x := range 100 {
		l, e := p.Targets(x)
		first, _, _ := p.Needs(x)
		failsWith(t, e, api.ErrProof, first, "Targets of another version's blocks")
		if len(l) != 0 {
			t.Error("with an error targets")
		}
	}
}

func TestGuard(t *testing.T) {
	blocks := []string{"", "a", "b", strings.Repeat("c", 64), strings.Repeat("d", 65), "a"}
	leaves := make([]string, len(blocks))
	for i, s := range blocks {
		leaves[i] = leafOf(s)
	}
	a := &asks{blocks: blocks}
	src := probe.Guard(leaves, a.tell)
	for i, want := range blocks {
		if s, e := src(i); s != want || e != nil || !slices.Equal(a.taken(), []int{i}) {
			t.Errorf("block %d: %q, error %d", i, s, api.Code(e))
		}
	}
	for _, i := range append([]int{len(leaves), len(leaves) + 1}, far...) {
		s, e := src(i)
		failsWith(t, e, api.ErrNone, noPlace, fmt.Sprintf("block %d", i))
		if s != "" || len(a.l) != 0 {
			t.Errorf("block %d: %q, and %v asked for", i, s, a.l)
		}
	}
	for i, s := range blocks { // each block where another one should be
		for k, x := range blocks {
			got, e := probe.Guard(leaves, func(int) (string, error) { return x, nil })(i)
			if x == s {
				if got != s || e != nil {
					t.Errorf("block %d as %d: %q, error %d", k, i, got, api.Code(e))
				}
				continue
			}
			failsWith(t, e, api.ErrProof, noPlace, fmt.Sprintf("block %d as %d", k, i))
			if got != "" {
				t.Errorf("with an error %q", got)
			}
		}
	}
}

// TestLeavesThatAreNone: no block has one.
func TestLeavesThatAreNone(t *testing.T) {
	leaf := leafOf("a")
	for _, x := range []string{"", "a", leaf[1:], leaf[:31], leaf + "\x00", "\x00" + leaf, leaf + leaf, strings.ToUpper(leaf) + "A"} {
		s, e := probe.Guard([]string{x}, block.Of("a"))(0)
		failsWith(t, e, api.ErrProof, noPlace, fmt.Sprintf("leaf %x", x))
		if s != "" {
			t.Errorf("with an error %q", s)
		}
	}
	for _, none := range [][]string{nil, {}} {
		_, e := probe.Guard(none, block.Of("a"))(0)
		failsWith(t, e, api.ErrNone, noPlace, "no leaves")
	}
}

func TestErrorsThroughAGuard(t *testing.T) {
	own := errors.New("its own")
	for _, want := range []error{own, api.ErrNone, api.ErrDown, api.Fault{At: 7, Err: own}, api.Fault{At: 0, Err: api.ErrProof}} {
		for _, told := range []string{"", "a", "b"} {
			s, e := probe.Guard(probe.Leaves("a"), func(int) (string, error) { return told, want })(0)
			if s != "" || e != want {
				t.Errorf("%q, error %d at %d; want %d at %d", s, api.Code(e), api.Place(e), api.Code(want), api.Place(want))
			}
		}
	}
	s, e := probe.Guard(probe.Leaves("a"), func(int) (string, error) { panic("no block") })(0)
	failsWith(t, e, api.ErrNone, noPlace, "a source that panics")
	if s != "" {
		t.Errorf("with an error %q", s)
	}
	for _, leaves := range [][]string{probe.Leaves("a", "b"), nil} {
		src := probe.Guard(leaves, nil)
		if src == nil {
			t.Fatal("no source")
		}
		for _, i := range append([]int{0, 1, 2}, far...) {
			s, e := src(i)
			failsWith(t, e, api.ErrArg, noPlace, fmt.Sprintf("block %d of no source", i))
			if s != "" {
				t.Errorf("with an error %q", s)
			}
		}
	}
}

// TestGuardsOfGuards: each asks for its own leaf.
func TestGuardsOfGuards(t *testing.T) {
	in := probe.Guard(probe.Leaves("a", "b", "c"), block.Of("a", "x", "c"))
	src := probe.Guard(probe.Leaves("a", "b", "z", "q"), in)
	if s, e := src(0); s != "a" || e != nil {
		t.Errorf("%q, error %d", s, api.Code(e))
	}
	for i, want := range []api.Errno{0, api.ErrProof, api.ErrProof, api.ErrNone, api.ErrNone} {
		if _, e := src(i); api.Code(e) != int(want) {
			t.Errorf("block %d: error %d, want %d", i, api.Code(e), want)
		}
	}
}

func TestLeaves(t *testing.T) {
	for _, l := range [][]string{nil, {}, {""}, {"a"}, {"a", "b", "a"}, {"", "\x00", "\x00\x00"}, {strings.Repeat("x", 64), strings.Repeat("y", 63), strings.Repeat("z", 5000)}} {
		got := probe.Leaves(l...)
		if len(got) != len(l) {
			t.Fatalf("%d leaves of %d blocks", len(got), len(l))
		}
		for i, s := range l {
			if got[i] != leafOf(s) {
				t.Errorf("the leaf of %q: %x, want %x", s, got[i], leafOf(s))
			}
		}
	}
}

func TestNoProbe(t *testing.T) {
	for _, p := range []*probe.Probe{nil, {}, {Manifest: grid(9, 1, 1).version(t, 3).Manifest}} { // New made none of them
		for _, x := range append([]int{0, 1}, far...) {
			l, e := p.Targets(x)
			failsWith(t, e, api.ErrArg, noPlace, "Targets of no probe")
			n, e := p.Degree(x)
			failsWith(t, e, api.ErrArg, noPlace, "Degree of no probe")
			first, last, e := p.Needs(x)
			failsWith(t, e, api.ErrArg, noPlace, "Needs of no probe")
			if len(l) != 0 || n != 0 || first != 0 || last != 0 {
				t.Errorf("no probe: %v, %d, %d, %d", l, n, first, last)
			}
		}
		c, e := p.All()
		failsWith(t, e, api.ErrArg, noPlace, "All of no probe")
		if c != nil || p.Asked() != 0 {
			t.Errorf("no probe: a graph, or %d", p.Asked())
		}
	}
}

// TestManifestsThatChange: what New was given is kept as it was; what is made of the probe's own is checked.
func TestManifestsThatChange(t *testing.T) {
	g := grid(40, 6, 3)
	rows := g.rows()
	v := g.version(t, 10)
	m := manifest.Copy(v.Manifest)
	p := newProbe(t, m, block.Of(v.List...))
	for i := range m.Shards {
		m.Shards[i] = api.Shard{First: 99, Bytes: 0}
	}
	for x := range 40 {
		if l, e := p.Targets(x); !slices.Equal(l, rows[x]) || e != nil {
			t.Fatalf("node %d: %v, error %d at %d", x, l, api.Code(e), api.Place(e))
		}
	}
	if !manifest.Same(p.Manifest, v.Manifest) {
		t.Error("a probe's manifest isn't the one that New was given")
	}
	p.Shards[2].Bytes = -5
	_, e := p.Targets(0)
	failsWith(t, e, api.ErrForm, 9, "Targets")
	_, e = p.Degree(0)
	failsWith(t, e, api.ErrForm, 9, "Degree")
	_, _, e = p.Needs(0)
	failsWith(t, e, api.ErrForm, 9, "Needs")
	_, e = p.All()
	failsWith(t, e, api.ErrForm, 9, "All")
}

// liesIn tells whether a text is a piece of another one's memory.
func liesIn(got, s string) bool {
	at, begin := uintptr(unsafe.Pointer(unsafe.StringData(got))), uintptr(unsafe.Pointer(unsafe.StringData(s)))
	return at >= begin && at < begin+uintptr(len(s))
}

func TestAnswersAreTheirOwn(t *testing.T) {
	g := grid(40, 6, 3)
	v := g.version(t, 10)
	leaves := probe.Leaves(v.List...)
	src := probe.Guard(leaves, func(i int) (string, error) { return v.List[i], nil })
	p := newProbe(t, v.Manifest, src)
	if liesIn(p.Root, v.Root) {
		t.Error("the root that is kept is a piece of the argument")
	}
	was, e := p.Targets(7)
	if e != nil || len(was) == 0 {
		t.Fatal(api.Code(e))
	}
	kept := slices.Clone(was)
	for i := range was {
		was[i] = -1
	}
	_ = append(was, -1)
	if l, e := p.Targets(7); !slices.Equal(l, kept) || e != nil {
		t.Errorf("targets that change with an answer: %v, error %d", l, api.Code(e))
	}
	leaves[0], leaves[1] = leaves[1], ""
	for i, s := range v.List {
		got, e := src(i)
		if got != s || e != nil {
			t.Fatalf("a guard that changes with its argument: block %d: %q, error %d", i, got, api.Code(e))
		}
		if liesIn(got, s) {
			t.Errorf("block %d is a piece of what is kept", i)
		}
	}
}

func TestNoArgumentIsWrittenInto(t *testing.T) {
	v := grid(40, 6, 3).version(t, 10)
	leaves := probe.Leaves(v.List...)
	list, was := slices.Clone(v.List), slices.Clone(leaves)
	m := manifest.Copy(v.Manifest)
	p := newProbe(t, m, probe.Guard(leaves, block.Of(v.List...)))
	for x := range 41 {
		p.Targets(x)
		p.Degree(x)
		p.Needs(x)
	}
	p.All()
	if !manifest.Same(m, v.Manifest) || !slices.Equal(list, v.List) || !slices.Equal(was, leaves) {
		t.Error("an argument was written into")
	}
}

// TestTwoProbes: each counts what it alone asks for.
func TestTwoProbes(t *testing.T) {
	v := grid(200, 9, 11).version(t, 50)
	src := block.Of(v.List...)
	p, q := newProbe(t, v.Manifest, src), newProbe(t, v.Manifest, src)
	p.Targets(0)
	first, last, _ := p.Needs(0)
	if p.Asked() != last-first+1 || q.Asked() != 0 {
		t.Errorf("%d and %d asked for", p.Asked(), q.Asked())
	}
	q.All()
	if p.Asked() != last-first+1 || q.Asked() != v.Blocks {
		t.Errorf("%d and %d asked for", p.Asked(), q.Asked())
	}
}
