package shard_test

import (
	"errors"
	"math"
	"slices"
	"strings"
	"testing"

	"lading/api"
	"lading/csr"
	"lading/shard"
)

// All tests here are of promise P7.1.

const (
	maxNodes  = 4096
	maxShards = 64
	greatest  = 1<<56 - 1
	noPlace   = -1
)

// noCounts are what no graph has as many nodes as.
var noCounts = []int{-1, -2, maxNodes + 1, 1 << 32, 1<<32 + 1, math.MaxInt, math.MinInt}

// far are numbers that are no node's, however many nodes there are.
var far = []int{-1, -8, -maxNodes, maxNodes, maxNodes + 8, 1 << 32, -1 << 32, 1<<32 + 1, math.MaxInt, math.MaxInt - 8, math.MinInt, math.MinInt + 8}

// notShort are bytes that are no short number, however they go on.
var notShort = []string{"\x80\x00", "\xff\x00", "\x83\x80\x00", strings.Repeat("\x80", 8), strings.Repeat("\xff", 9)}

// short is a short number's bytes, digit by digit.
func short(x int) string {
	if x < 128 {
		return string([]byte{byte(x)})
	}
	return string([]byte{byte(x%128 + 128)}) + short(x/128)
}

// rowOf is a row's bytes.
func rowOf(v int, l []int) string {
	s := short(len(l))
	for i, w := range l {
		switch {
		case i > 0:
			s += short(w - l[i-1] - 1)
		case w < v:
			s += short(2*(v-w) - 1)
		default:
			s += short(2 * (w - v))
		}
	}
	return s
}

// parts are a shard's bytes, in pieces: both first numbers, the index, and the rows.
type parts struct {
	first, many string
	index, rows []string
}

func partsOf(first int, rows [][]int) parts {
	p := parts{first: short(first), many: short(len(rows))}
	for i, l := range rows {
		if i%8 == 0 {
			p.index = append(p.index, short(len(strings.Join(p.rows, ""))))
		}
		p.rows = append(p.rows, rowOf(first+i, l))
	}
	return p
}

// copied is a piece-wise copy, to be spoilt.
func (p parts) copied() parts {
	p.index, p.rows = slices.Clone(p.index), slices.Clone(p.rows)
	return p
}

func (p parts) text() string {
	return p.first + p.many + strings.Join(p.index, "") + strings.Join(p.rows, "")
}

// indexAt is where the i-th number of the index stands.
func (p parts) indexAt(i int) int {
	return len(p.first+p.many) + len(strings.Join(p.index[:i], ""))
}

// rowAt is where the i-th row stands.
func (p parts) rowAt(i int) int {
	return p.indexAt(len(p.index)) + len(strings.Join(p.rows[:i], ""))
}

// fault is an error's number, and its place (noPlace: it has none); number 0 is no error.
type fault struct {
	err api.Errno
	at  int
}

func (f fault) is(t *testing.T, e error, who string) {
	t.Helper()
	x, placed := e.(api.Fault)
	if placed {
		e = x.Err
	}
	n, plain := e.(api.Errno)
	if placed != (f.at != noPlace) || placed && x.At != f.at || !plain || n != f.err {
		t.Errorf("%s: error %d (placed: %v, at %d), want %d at %d", who, api.Code(e), placed, x.At, f.err, f.at)
	}
}

// isOuter: an error of one of some shards: at which one, and in it the shard's own.
func (f fault) isOuter(t *testing.T, e error, which int, who string) {
	t.Helper()
	x, ok := e.(api.Fault)
	if !ok || x.At != which || api.Place(e) != which {
		t.Errorf("%s: error %d at %d, want %d at %d", who, api.Code(e), api.Place(e), f.err, which)
		return
	}
	f.is(t, x.Err, who)
}

// shortAt reads a short number by trying whether what stands there is one's bytes.
func shortAt(s string, at int) (x, next int, f fault) {
	n := strings.IndexFunc(s[at:], func(r rune) bool { return r < 128 })
	if n == -1 && len(s)-at < 8 {
		return 0, at, fault{api.ErrShort, len(s)}
	}
	if n == -1 || n > 7 {
		return 0, at, fault{api.ErrForm, at}
	}
	for i := n; i >= 0; i-- {
		x = 128*x + int(s[at+i]&127)
	}
	if short(x) != s[at:at+n+1] {
		return 0, at, fault{api.ErrForm, at}
	}
	return x, at + n + 1, fault{}
}

// row is what stands at a place: what is got of it, what is gone over, and how many targets it tells; each with its error.
type row struct {
	l                []int
	next, many       int
	get, skip, count fault
}

func rowAt(s string, at, nodes, v int) row {
	many, at, f := shortAtMost(s, at, nodes)
	r := row{next: at, many: many, get: f, skip: f, count: f}
	last := 0
	for i := 0; i < many && r.skip.err == 0; i++ {
		x, next, f := shortAt(s, r.next)
		switch {
		case i > 0:
			last += 1 + x
		case x%2 == 1:
			last = v - (x+1)/2
		default:
			last = v + x/2
		}
		if r.get.err == 0 && f.err == 0 && (last < 0 || last >= nodes) {
			r.get = fault{api.ErrForm, r.next}
		}
		if r.get.err == 0 {
			r.get = f
		}
		r.l, r.skip, r.next = append(r.l, last), f, next
	}
	return r
}

func shortAtMost(s string, at, most int) (int, int, fault) {
	x, next, f := shortAt(s, at)
	if f.err == 0 && x > most {
		return 0, at, fault{api.ErrForm, at}
	}
	return x, next, f
}

// reading is what is told of bytes ahead of their rows, by another way.
type reading struct {
	s                  string
	nodes, first, many int
	index, places      []int
	rows               int
	f                  fault
}

func read(s string, nodes int) reading {
	r := reading{s: s, nodes: nodes}
	second := 0
	if r.first, second, r.f = shortAt(s, 0); r.f.err != 0 {
		return r
	}
	if r.many, r.rows, r.f = shortAt(s, second); r.f.err != 0 {
		return r
	}
	if r.many < 1 || r.first+r.many > nodes {
		r.f = fault{api.ErrForm, second}
		return r
	}
	for i := 0; i < r.many; i += 8 {
		x, next, f := shortAt(s, r.rows)
		if f.err != 0 {
			r.f = f
			return r
		}
		r.index, r.places, r.rows = append(r.index, x), append(r.places, r.rows), next
	}
	return r
}

// whole is the shard, or what Get should refuse it by.
func (r reading) whole() ([][]int, fault) {
	if r.f.err != 0 {
		return nil, r.f
	}
	var l [][]int
	var begins []int
	at := r.rows
	for i := range r.many {
		x := rowAt(r.s, at, r.nodes, r.first+i)
		if x.get.err != 0 {
			return nil, x.get
		}
		l, begins, at = append(l, x.l), append(begins, at-r.rows), x.next
	}
	for i, x := range r.index {
		if begins[8*i] != x {
			return nil, fault{api.ErrForm, r.places[i]}
		}
	}
	if at != len(r.s) {
		return nil, fault{api.ErrForm, at}
	}
	return l, fault{}
}

// row is what stands where v's row should, or what all that look for it should be refused by.
func (r reading) row(v int) row {
	refused := func(f fault) row { return row{get: f, count: f} }
	if r.f.err != 0 {
		return refused(r.f)
	}
	if v < r.first || v >= r.first+r.many {
		return refused(fault{api.ErrRange, noPlace})
	}
	i := (v - r.first) / 8
	at := r.rows + r.index[i]
	if at > len(r.s) {
		return refused(fault{api.ErrForm, r.places[i]})
	}
	for w := r.first + 8*i; w < v; w++ {
		x := rowAt(r.s, at, r.nodes, w)
		if x.skip.err != 0 {
			return refused(x.skip)
		}
		at = x.next
	}
	return rowAt(r.s, at, r.nodes, v)
}

func equalRows(a, b [][]int) bool { return slices.EqualFunc(a, b, slices.Equal[[]int]) }

func getIs(t *testing.T, s string, nodes, first int, rows [][]int) {
	t.Helper()
	if x, e := shard.Get(s, nodes); e != nil || x.First != first || !equalRows(x.Rows, rows) {
		t.Errorf("Get(%.60q, %d): %d %.100v, %d at %d; want %d %.100v", s, nodes, x.First, x.Rows, api.Code(e), api.Place(e), first, rows)
	}
}

func getFails(t *testing.T, s string, nodes int, want fault) {
	t.Helper()
	x, e := shard.Get(s, nodes)
	want.is(t, e, "Get")
	if x.First != 0 || len(x.Rows) != 0 {
		t.Errorf("with an error Get(%.60q, %d): %.100v", s, nodes, x)
	}
}

func findIs(t *testing.T, s string, nodes, v int, l []int) {
	t.Helper()
	if got, e := shard.Find(s, nodes, v); e != nil || !slices.Equal(got, l) {
		t.Errorf("Find(%.60q, %d, %d): %.100v, %d at %d; want %.100v", s, nodes, v, got, api.Code(e), api.Place(e), l)
	}
}

func findFails(t *testing.T, s string, nodes, v int, want fault) {
	t.Helper()
	l, e := shard.Find(s, nodes, v)
	want.is(t, e, "Find")
	if len(l) != 0 {
		t.Errorf("with an error Find(%.60q, %d, %d): %.100v", s, nodes, v, l)
	}
}

func degreeIs(t *testing.T, s string, nodes, v, want int) {
	t.Helper()
	if n, e := shard.Degree(s, nodes, v); e != nil || n != want {
		t.Errorf("Degree(%.60q, %d, %d): %d, %d at %d; want %d", s, nodes, v, n, api.Code(e), api.Place(e), want)
	}
}

func degreeFails(t *testing.T, s string, nodes, v int, want fault) {
	t.Helper()
	n, e := shard.Degree(s, nodes, v)
	want.is(t, e, "Degree")
	if n != 0 {
		t.Errorf("with an error Degree(%.60q, %d, %d): %d", s, nodes, v, n)
	}
}

func seekFails(t *testing.T, s string, nodes, v int, want fault) {
	t.Helper()
	findFails(t, s, nodes, v, want)
	degreeFails(t, s, nodes, v, want)
}

func allFail(t *testing.T, s string, nodes, v int, want fault) {
	t.Helper()
	getFails(t, s, nodes, want)
	seekFails(t, s, nodes, v, want)
}

// isTold: of any bytes all is told that should be.
func isTold(t *testing.T, s string, nodes int) {
	t.Helper()
	r := read(s, nodes)
	rows, f := r.whole()
	if f.err != 0 {
		getFails(t, s, nodes, f)
	} else {
		getIs(t, s, nodes, r.first, rows)
		if x := partsOf(r.first, rows).text(); x != s {
			t.Errorf("%.60q is a shard whose bytes are %.60q", s, x)
		}
	}
	for v := -1; v <= nodes; v++ {
		x := r.row(v)
		if x.get.err != 0 {
			findFails(t, s, nodes, v, x.get)
		} else {
			findIs(t, s, nodes, v, x.l)
		}
		if x.count.err != 0 {
			degreeFails(t, s, nodes, v, x.count)
		} else {
			degreeIs(t, s, nodes, v, x.many)
		}
	}
}

// graph is rows, each of which has the targets that a rule tells.
func graph(nodes int, has func(v, w int) bool) [][]int {
	rows := make([][]int, nodes)
	for v := range rows {
		for w := range nodes {
			if has(v, w) {
				rows[v] = append(rows[v], w)
			}
		}
	}
	return rows
}

func build(t *testing.T, rows [][]int) *csr.Csr {
	t.Helper()
	var l []api.Edge
	for v, x := range rows {
		for _, w := range x {
			l = append(l, api.Edge{From: v, To: w})
		}
	}
	c, e := csr.Build(len(rows), l)
	if e != nil {
		t.Fatal(e)
	}
	return c
}

// ordinary are graphs of all sorts: without edges, with all, and with some.
func ordinary(nodes int) [][][]int {
	return [][][]int{
		graph(nodes, func(v, w int) bool { return false }),
		graph(nodes, func(v, w int) bool { return true }),
		graph(nodes, func(v, w int) bool { return v == w }),
		graph(nodes, func(v, w int) bool { return w == (7*v+3)%nodes }),
		graph(nodes, func(v, w int) bool { return (v*v+3*w)%5 < 2 }),
		graph(nodes, func(v, w int) bool { return v%8 == 3 && w > v }),
	}
}

// isPut: some nodes' bytes are what they should be, and all that read tell these nodes' rows.
func isPut(t *testing.T, c *csr.Csr, rows [][]int, first, many int) {
	t.Helper()
	nodes, mine := len(rows), rows[first:first+many]
	want := partsOf(first, mine).text()
	s, e := shard.Put(c, first, many)
	if s != want || e != nil {
		t.Errorf("Put(%d, %d): %.100q, %v; want %.100q", first, many, s, e, want)
	}
	getIs(t, s, nodes, first, mine)
	for v := range nodes {
		if v < first || v >= first+many {
			seekFails(t, s, nodes, v, fault{api.ErrRange, noPlace})
			continue
		}
		findIs(t, s, nodes, v, rows[v])
		degreeIs(t, s, nodes, v, len(rows[v]))
	}
}

func TestExample(t *testing.T) {
	rows := graph(20, func(v, w int) bool { return w == v+1 })
	l, e := shard.Split(build(t, rows), 8)
	if e != nil || len(l) != 3 {
		t.Fatalf("%q, %v", l, e)
	}
	for i, many := range []int{8, 8, 4} {
		getIs(t, l[i], 20, 8*i, rows[8*i:8*i+many])
	}
}

func TestBytes(t *testing.T) {
	three := build(t, [][]int{{1}, nil, {0}})
	ten := build(t, make([][]int, 10))
	for _, x := range []struct {
		c           *csr.Csr
		first, many int
		want        string
	}{
		{three, 0, 3, "\x00\x03\x00\x01\x02\x00\x01\x03"},
		{three, 1, 2, "\x01\x02\x00\x00\x01\x03"},
		{three, 2, 1, "\x02\x01\x00\x01\x03"},
		{three, 1, 1, "\x01\x01\x00\x00"},
		{ten, 0, 8, "\x00\x08\x00" + strings.Repeat("\x00", 8)},
		{ten, 0, 9, "\x00\x09\x00\x08" + strings.Repeat("\x00", 9)},
		{ten, 1, 9, "\x01\x09\x00\x08" + strings.Repeat("\x00", 9)}, // each eighth of its own rows
	} {
		if s, e := shard.Put(x.c, x.first, x.many); s != x.want || e != nil {
			t.Errorf("Put(%d, %d): %q, %v; want %q", x.first, x.many, s, e, x.want)
		}
	}
}

func TestAllPiecesOfGraphs(t *testing.T) {
	for _, nodes := range []int{1, 2, 3, 7, 8, 9, 16, 17, 26} {
		for _, rows := range ordinary(nodes) {
			c := build(t, rows)
			for first := range nodes {
				for many := 1; first+many <= nodes; many++ {
					isPut(t, c, rows, first, many)
				}
			}
		}
	}
}

func TestNumbersOfMoreThanOneByte(t *testing.T) {
	rows := graph(141, func(v, w int) bool { return true }) // the index's numbers have one, two and three bytes
	c := build(t, rows)
	for _, x := range [][2]int{{0, 141}, {0, 127}, {0, 128}, {1, 130}, {127, 14}, {128, 13}, {140, 1}} {
		isPut(t, c, rows, x[0], x[1])
	}
	if last := partsOf(0, rows).index[17]; len(last) != 3 {
		t.Errorf("the index's last number is %q", last)
	}
}

func TestGreatestGraphs(t *testing.T) {
	all := graph(maxNodes, func(v, w int) bool { return false })
	one := graph(maxNodes, func(v, w int) bool { return v == maxNodes-1 })
	edges := 0
	for v := range all {
		for w := v % 5; w < maxNodes && edges < 20000; w += 800 { // 5 or 6 of each, as many as a graph has
			all[v] = append(all[v], w)
			edges++
		}
	}
	for _, rows := range [][][]int{all, one} {
		c := build(t, rows)
		for _, x := range [][2]int{{0, maxNodes}, {maxNodes - 1, 1}, {0, 1}, {1, maxNodes - 1}, {2000, 2000}} {
			s, e := shard.Put(c, x[0], x[1])
			if want := partsOf(x[0], rows[x[0]:x[0]+x[1]]).text(); e != nil || s != want {
				t.Fatalf("Put(%d, %d): %.60q, %v; want %.60q", x[0], x[1], s, e, want)
			}
			getIs(t, s, maxNodes, x[0], rows[x[0]:x[0]+x[1]])
			for v := x[0]; v < x[0]+x[1]; v += 1 + x[1]/70 {
				findIs(t, s, maxNodes, v, rows[v])
				degreeIs(t, s, maxNodes, v, len(rows[v]))
			}
		}
		for _, each := range []int{64, 65, 100, maxNodes} {
			splits(t, c, rows, each)
		}
	}
}

func TestPutRefuses(t *testing.T) {
	for _, x := range [][2]int{{0, 1}, {0, 0}, {-1, -1}} { // asked ahead of the nodes
		if s, e := shard.Put(nil, x[0], x[1]); s != "" || e != error(api.ErrArg) {
			t.Errorf("Put(nil, %d, %d): %q, %v", x[0], x[1], s, e)
		}
	}
	refused := func(c *csr.Csr, first, many int) {
		t.Helper()
		s, e := shard.Put(c, first, many)
		fault{api.ErrRange, noPlace}.is(t, e, "Put")
		if s != "" {
			t.Errorf("Put(%d, %d) of %d nodes: %q", first, many, c.Nodes(), s)
		}
	}
	for _, nodes := range []int{0, 1, 9, maxNodes} {
		c := build(t, make([][]int, nodes))
		for _, many := range append([]int{0, nodes + 1}, far...) {
			for _, first := range append([]int{0, 1, nodes, nodes + 1}, far...) {
				if many != maxNodes || nodes != maxNodes || first != 0 {
					refused(c, first, many)
				}
			}
		}
		for _, first := range append([]int{nodes, nodes + 1}, far...) {
			refused(c, first, 1)
			refused(c, first, 8)
		}
		for first := 1; first < min(nodes, 9); first++ {
			refused(c, first, nodes-first+1)
		}
	}
	refused(&csr.Csr{}, 0, 1)
}

func TestReadingRefusesNodes(t *testing.T) {
	s := partsOf(0, make([][]int, 9)).text()
	for _, nodes := range noCounts {
		for _, x := range []string{s, "", "\x80\x00", "\x00\x00", s + "\x00"} { // asked ahead of the bytes
			for _, v := range []int{0, 8, 9, -1} { // and of v
				allFail(t, x, nodes, v, fault{api.ErrArg, noPlace})
			}
			if l, e := shard.Table(nodes, x, x); len(l) != 0 {
				t.Error(l)
			} else {
				fault{api.ErrArg, noPlace}.isOuter(t, e, 0, "Table")
			}
			joinFails(t, nodes, []string{x, x}, fault{api.ErrArg, noPlace}, 0)
		}
	}
}

func TestFirstNumbers(t *testing.T) {
	rest := "\x00" + strings.Repeat("\x00", 9)
	for _, bad := range notShort {
		allFail(t, bad+"\x01"+rest, 9, 0, fault{api.ErrForm, 0})
		allFail(t, bad+bad, 9, 0, fault{api.ErrForm, 0})
		allFail(t, "\x00"+bad+rest, 9, 0, fault{api.ErrForm, 1})
		allFail(t, short(300)+bad+rest, maxNodes, 300, fault{api.ErrForm, 2})
		allFail(t, short(300)+bad+rest, 9, 300, fault{api.ErrForm, 2}) // no node of these: told with the second number
	}
	allFail(t, "", 9, 0, fault{api.ErrShort, 0})
	allFail(t, "\x80", 9, 0, fault{api.ErrShort, 1})
	allFail(t, "\x00", 9, 0, fault{api.ErrShort, 1})
	allFail(t, short(300), 9, 0, fault{api.ErrShort, 2})
	allFail(t, "\x00\x80", 9, 0, fault{api.ErrShort, 2})
	for _, nodes := range []int{0, 1, 9, 200, maxNodes} {
		for _, first := range []int{0, nodes / 2, nodes, nodes + 1, maxNodes, 1 << 32, greatest} {
			for _, many := range []int{0, nodes - first + 1, nodes + 1, maxNodes + 1, 1 << 32, greatest - first + 1, greatest} {
				if many < 0 || many > greatest {
					continue
				}
				s, want := short(first)+short(many), fault{api.ErrForm, len(short(first))}
				for _, v := range []int{0, first, nodes, -1} { // ahead of what lacks behind it, and of v
					allFail(t, s, nodes, v, want)
					allFail(t, s+rest, nodes, v, want)
				}
			}
		}
	}
}

func TestIndexNumbersThatAreNone(t *testing.T) {
	p := partsOf(0, make([][]int, 20))
	for i := range p.index {
		for _, bad := range notShort {
			x := p.copied()
			x.index[i] = bad
			x.rows[0] = "\x80\x00" // asked behind it
			for v := range 20 {
				allFail(t, x.text(), 20, v, fault{api.ErrForm, p.indexAt(i)}) // whoever's: behind it the rows begin
			}
			seekFails(t, x.text(), 20, 20, fault{api.ErrForm, p.indexAt(i)})
		}
		for v := range 20 {
			cut := p.text()[:p.indexAt(i)]
			allFail(t, cut, 20, v, fault{api.ErrShort, len(cut)})
			allFail(t, cut+"\x80", 20, v, fault{api.ErrShort, len(cut) + 1})
		}
	}
}

func TestIndexThatIsNotAsSaid(t *testing.T) {
	rows := graph(20, func(v, w int) bool { return w > v })
	p := partsOf(0, rows)
	wrong := fault{api.ErrForm, p.indexAt(0)}
	for i := range p.index {
		right, _, _ := shortAt(p.index[i], 0)
		for _, n := range []int{right + 1, right - 1, 0, 1, 8, 1 << 20, 1 << 32, greatest} {
			if n < 0 || n == right {
				continue
			}
			x := p.copied()
			x.index[i] = short(n)
			getFails(t, x.text(), 20, fault{api.ErrForm, p.indexAt(i)})
			getFails(t, x.text()+"\x00", 20, fault{api.ErrForm, p.indexAt(i)}) // ahead of bytes that are left
			for v := range 20 {
				if v/8 != i {
					findIs(t, x.text(), 20, v, rows[v]) // the others are found as before
					degreeIs(t, x.text(), 20, v, len(rows[v]))
				}
			}
		}
	}
	x := p.copied()
	x.index[0], x.index[1], x.index[2] = "\x01", "\x02", "\x03" // the first of them is told
	getFails(t, x.text(), 20, wrong)
	last := len(x.rows) - 1
	for _, bad := range notShort { // the rows' errors come ahead
		x.rows[last] = bad
		getFails(t, x.text(), 20, fault{api.ErrForm, x.rowAt(last)})
	}
	x.rows[last] = "\x01"
	getFails(t, x.text(), 20, fault{api.ErrShort, len(x.text())})
	x.rows[last] = "\x15"
	getFails(t, x.text(), 20, fault{api.ErrForm, x.rowAt(last)})
	x.rows[last] = "\x01\x02" // node 20
	getFails(t, x.text(), 20, fault{api.ErrForm, x.rowAt(last) + 1})
	x.rows[last] = "\x00\x00" // but not what is left
	getFails(t, x.text(), 20, wrong)
}

func TestBytesThatAreLeft(t *testing.T) {
	for _, rows := range ordinary(17) {
		s := partsOf(0, rows).text()
		for _, more := range []string{"\x00", "\x80", "\x00\x00", s} {
			getFails(t, s+more, 17, fault{api.ErrForm, len(s)})
			for v, l := range rows {
				findIs(t, s+more, 17, v, l) // not looked at
				degreeIs(t, s+more, 17, v, len(l))
			}
		}
	}
}

// TestWhereAnIndexLeads: a row is looked for where the index says, and nowhere else.
func TestWhereAnIndexLeads(t *testing.T) {
	rows := graph(20, func(v, w int) bool { return w > v })
	p := partsOf(0, rows)
	all := len(strings.Join(p.rows, ""))
	for i := range p.index {
		for _, n := range []int{all + 1, all + 2, 1 << 32, greatest} {
			x := p.copied()
			x.index[i] = short(n)
			for v := 8 * i; v < min(20, 8*i+8); v++ {
				seekFails(t, x.text(), 20, v, fault{api.ErrForm, p.indexAt(i)})
			}
		}
		x := p.copied()
		x.index[i] = short(all) // the end is a place, at which nothing stands
		for v := 8 * i; v < min(20, 8*i+8); v++ {
			seekFails(t, x.text(), 20, v, fault{api.ErrShort, len(x.text())})
		}
	}
	ring := graph(20, func(v, w int) bool { return w == (v+1)%20 })
	q := partsOf(0, ring)
	q.index[1] = "\x02" // to row 1, which leads one on from whoever's it is
	for v := 8; v < 16; v++ {
		findIs(t, q.text(), 20, v, []int{v + 1})
		degreeIs(t, q.text(), 20, v, 1)
	}
	q.index[1] = "\x03" // into the midst of row 1: two targets, the first one node v + 0 or so
	isTold(t, q.text(), 20)
}

// TestJustWhatIsNeededIsLookedAt: what stands elsewhere may be anything.
func TestJustWhatIsNeededIsLookedAt(t *testing.T) {
	rows := graph(20, func(v, w int) bool { return (v+w)%3 == 0 })
	p := partsOf(0, rows)
	for v, l := range rows {
		x := p.copied()
		for i := range x.index {
			if i != v/8 {
				x.index[i] = "\xfe\xff\x7f" // it leads outside
			}
		}
		for i := range x.rows {
			if i < v/8*8 || i > v {
				x.rows[i] = strings.Repeat("\xff", len(x.rows[i]))
			}
		}
		findIs(t, x.text(), 20, v, l)
		degreeIs(t, x.text(), 20, v, len(l))
		x.rows = x.rows[:v+1] // and may lack
		findIs(t, x.text(), 20, v, l)
		degreeIs(t, x.text(), 20, v, len(l))
		x.rows[v] = short(len(l)) + "\x80\x00" // of its own row the first number is enough for its degree
		degreeIs(t, x.text(), 20, v, len(l))
		findFails(t, x.text(), 20, v, fault{api.ErrForm, x.rowAt(v) + 1})
		x.rows[v] = short(len(l))
		degreeIs(t, x.text(), 20, v, len(l))
		findFails(t, x.text(), 20, v, fault{api.ErrShort, len(x.text())})
		x.rows[v] = "\x01" + short(2*(20-v)) // node 20
		degreeIs(t, x.text(), 20, v, 1)
		findFails(t, x.text(), 20, v, fault{api.ErrForm, x.rowAt(v) + 1})
		x.rows[v] = "\x15"
		seekFails(t, x.text(), 20, v, fault{api.ErrForm, x.rowAt(v)})
		x.rows[v] = ""
		seekFails(t, x.text(), 20, v, fault{api.ErrShort, len(x.text())})
	}
}

func TestRowsOnTheWay(t *testing.T) {
	p := partsOf(0, graph(20, func(v, w int) bool { return w == v }))
	for v := range 20 {
		for i := v / 8 * 8; i < v; i++ {
			x := p.copied()
			for _, bad := range notShort {
				x.rows[i] = bad
				seekFails(t, x.text(), 20, v, fault{api.ErrForm, p.rowAt(i)})
				x.rows[i] = "\x02\x00" + bad
				seekFails(t, x.text(), 20, v, fault{api.ErrForm, p.rowAt(i) + 2})
			}
			x.rows[i] = "\x15" // more targets than nodes
			seekFails(t, x.text(), 20, v, fault{api.ErrForm, p.rowAt(i)})
			x.rows[i] = "\x01\x7f" // a target that is no node: it is gone over
			findIs(t, x.text(), 20, v, []int{v})
			getFails(t, x.text(), 20, fault{api.ErrForm, p.rowAt(i) + 1})
			x.rows = x.rows[:i]
			seekFails(t, x.text(), 20, v, fault{api.ErrShort, len(x.text())})
		}
	}
}

func TestNodesOfOthers(t *testing.T) {
	s := partsOf(5, make([][]int, 9)).text()
	for _, v := range append([]int{0, 4, 14, 15, 19, 20, 21}, far...) {
		seekFails(t, s, 20, v, fault{api.ErrRange, noPlace})
		seekFails(t, s+"\x00", 20, v, fault{api.ErrRange, noPlace})
		seekFails(t, s[:4], 20, v, fault{api.ErrRange, noPlace}) // no rows are looked at
		seekFails(t, s[:3], 20, v, fault{api.ErrShort, 3})       // but where they begin
	}
}

// texts are all of some bytes, up to a length.
func texts(letters string, most int, visit func(string)) {
	var b []byte
	var grow func()
	grow = func() {
		visit(string(b))
		if len(b) == most {
			return
		}
		for i := range len(letters) {
			b = append(b, letters[i])
			grow()
			b = b[:len(b)-1]
		}
	}
	grow()
}

// TestAnyBytes: of any bytes at all a shard is got just if these are one's.
func TestAnyBytes(t *testing.T) {
	all := make([]byte, 256)
	for i := range all {
		all[i] = byte(i)
	}
	texts(string(all), 2, func(s string) { isTold(t, s, 3) })
	texts("\x00\x01\x02\x03\x80", 6, func(s string) { isTold(t, s, 2) })
	texts("\x00\x01\x02\x80", 5, func(s string) { isTold(t, "\x00\x02\x00"+s, 3) })
	texts("\x00\x01\x09\x0a\x80", 5, func(s string) { isTold(t, "\x01\x09"+s+"\x00\x00\x00\x00\x00\x00\x00\x00", 10) })
}

// TestSpoiltBytes: shards in which one byte is another, or lacks, or is there twice, or behind which all lacks.
func TestSpoiltBytes(t *testing.T) {
	if testing.Short() {
		t.Skip("it takes seconds")
	}
	for _, rows := range ordinary(19)[1:] {
		for _, first := range []int{0, 1} {
			s := partsOf(first, rows[first:]).text()
			for i := range len(s) {
				isTold(t, s[:i], 19)
				isTold(t, s[:i]+s[i+1:], 19)
				isTold(t, s[:i]+s[i:i+1]+s[i:], 19)
				for b := 0; b < 256; b += 1 + b%16*3 {
					isTold(t, s[:i]+string([]byte{byte(b)})+s[i+1:], 19)
				}
			}
			for nodes := range 40 { // of more nodes, or fewer
				isTold(t, s, nodes)
			}
		}
	}
}

// splits: a graph's shards are what they should be, and join to it.
func splits(t *testing.T, c *csr.Csr, rows [][]int, each int) {
	t.Helper()
	l, e := shard.Split(c, each)
	var want []string
	var table []api.Shard
	for first := 0; first < len(rows); {
		many := min(each, len(rows)-first)
		want = append(want, partsOf(first, rows[first:first+many]).text())
		table = append(table, api.Shard{First: first, Bytes: len(want[len(want)-1])})
		first += many
	}
	if e != nil || !slices.Equal(l, want) {
		t.Errorf("Split(%d) of %d nodes: %.60q, %v", each, len(rows), l, e)
	}
	if x, e := shard.Join(len(rows), l...); e != nil || x == nil || !x.Same(c) {
		t.Errorf("what is split by %d isn't joined: %v", each, e)
	}
	if x, e := shard.Table(len(rows), l...); e != nil || !slices.Equal(x, table) {
		t.Errorf("Table of %d nodes by %d: %v, %v; want %v", len(rows), each, x, e, table)
	}
}

func TestSplitsAreJoined(t *testing.T) {
	for _, nodes := range []int{1, 2, 7, 8, 9, 20, 40, 64} {
		for _, rows := range ordinary(nodes) {
			c := build(t, rows)
			for each := 1; each <= nodes+1; each++ {
				splits(t, c, rows, each)
			}
			for _, each := range []int{maxNodes, 1 << 32, math.MaxInt - 1, math.MaxInt} {
				splits(t, c, rows, each)
			}
		}
	}
}

func TestNoNodes(t *testing.T) {
	for _, c := range []*csr.Csr{build(t, nil), {}} {
		for _, each := range []int{1, 8, math.MaxInt} {
			splits(t, c, nil, each)
			if l, e := shard.Split(c, each); len(l) != 0 || e != nil {
				t.Errorf("%q, %v", l, e)
			}
		}
	}
}

func TestSplitRefuses(t *testing.T) {
	refused := func(c *csr.Csr, each int, want api.Errno) {
		t.Helper()
		l, e := shard.Split(c, each)
		fault{want, noPlace}.is(t, e, "Split")
		if len(l) != 0 {
			t.Errorf("Split(%d): %.60q", each, l)
		}
	}
	for _, each := range []int{-1, 0, 1, 8, math.MaxInt, math.MinInt} {
		refused(nil, each, api.ErrArg)
	}
	for _, nodes := range []int{0, 1, 9, maxNodes} {
		c := build(t, make([][]int, nodes))
		for _, each := range []int{0, -1, -8, math.MinInt} {
			refused(c, each, api.ErrArg)
		}
	}
	for _, each := range []int{1, 2, 3, 8, 63} {
		for _, more := range []int{1, 2, each, each + 1} {
			refused(build(t, make([][]int, maxShards*each+more)), each, api.ErrLong)
		}
		rows := make([][]int, maxShards*each)
		splits(t, build(t, rows), rows, each) // just as many as there may be
		splits(t, build(t, rows[1:]), rows[1:], each)
	}
	refused(build(t, make([][]int, maxNodes)), 63, api.ErrLong)
}

func joinFails(t *testing.T, nodes int, l []string, want fault, which int) {
	t.Helper()
	kept := slices.Clone(l)
	c, e := shard.Join(nodes, l...)
	want.isOuter(t, e, which, "Join")
	if c != nil || !slices.Equal(l, kept) {
		t.Errorf("with an error Join(%d, %.60q): %v", nodes, l, c)
	}
}

func outOfOrder(t *testing.T, nodes, which int, l ...string) {
	t.Helper()
	c, e := shard.Join(nodes, l...)
	fault{api.ErrForm, which}.is(t, e, "Join")
	if c != nil {
		t.Errorf("with an error Join(%d, %.60q): %v", nodes, l, c)
	}
}

func TestShardsThatDoNotFollow(t *testing.T) {
	rows := graph(20, func(v, w int) bool { return w > v })
	c := build(t, rows)
	l, _ := shard.Split(c, 7)
	outOfOrder(t, 20, 0, l[1], l[2])
	outOfOrder(t, 20, 0, l[2], l[1], l[0])
	outOfOrder(t, 20, 1, l[0], l[0], l[1], l[2]) // twice
	outOfOrder(t, 20, 1, l[0], l[2])             // one lacks
	outOfOrder(t, 20, 2, l[0], l[1], l[1])
	outOfOrder(t, 20, 3, l[0], l[1], l[2], l[2]) // more than all
	outOfOrder(t, 20, 3, l[0], l[1], l[2], l[0])
	outOfOrder(t, 20, 2, l[0], l[1]) // nodes are left
	outOfOrder(t, 20, 1, l[0])
	outOfOrder(t, 20, 0)
	outOfOrder(t, 1, 0)
	outOfOrder(t, maxNodes, 0)
	outOfOrder(t, 21, 3, l[0], l[1], l[2])
	for first := 0; first <= 8; first++ { // those that lap over, or leave a gap
		x, _ := shard.Put(c, first, 20-first)
		if first != 7 {
			outOfOrder(t, 20, 1, l[0], x)
		} else if y, e := shard.Join(20, l[0], x); e != nil || !y.Same(c) {
			t.Error(e)
		}
	}
	for _, nodes := range noCounts {
		outOfOrder(t, nodes, 0)
	}
	if x, e := shard.Join(0); e != nil || x == nil || x.Nodes() != 0 {
		t.Errorf("Join(0): %v, %v", x, e)
	}
	parts := []string{partsOf(0, rows[:3]).text(), partsOf(3, rows[3:4]).text(), partsOf(4, rows[4:]).text()} // of unlike sizes
	if x, e := shard.Join(20, parts...); e != nil || !x.Same(c) {
		t.Error(e)
	}
}

func TestShardsThatAreNone(t *testing.T) {
	rows := graph(20, func(v, w int) bool { return w > v })
	l, _ := shard.Split(build(t, rows), 7)
	for i := range l {
		for _, bad := range []string{"", "\x80\x00", l[i] + "\x00", l[i][:len(l[i])-1], l[i][:1] + "\x00", short(7*i) + "\x15", l[i][:2] + "\x01" + l[i][3:]} {
			_, want := read(bad, 20).whole()
			if want.err == 0 {
				t.Fatalf("%q is a shard", bad)
			}
			x := slices.Clone(l)
			x[i] = bad
			joinFails(t, 20, x, want, i)
			tableFails(t, 20, x, want, i)
			y := append(slices.Clone(x), bad, "") // the first one is told
			joinFails(t, 20, y, want, i)
			tableFails(t, 20, y, want, i)
			for more := i + 1; more < len(x); more++ {
				x[more] = "\xff\x00"
			}
			joinFails(t, 20, x, want, i)
			tableFails(t, 20, x, want, i)
		}
		x := append(slices.Clone(l[:i]), "\x13\x02") // it neither follows nor is one
		joinFails(t, 20, x, fault{api.ErrForm, 1}, i)
	}
	outOfOrder(t, 20, 0, l[1], "")                 // told ahead of what is none behind it
	joinFails(t, 19, l, fault{api.ErrForm, 22}, 0) // node 19, which is row 0's last target
	joinFails(t, 0, l, fault{api.ErrForm, 1}, 0)
}

func tableFails(t *testing.T, nodes int, l []string, want fault, which int) {
	t.Helper()
	table, e := shard.Table(nodes, l...)
	want.isOuter(t, e, which, "Table")
	if len(table) != 0 {
		t.Errorf("with an error Table(%d, %.60q): %v", nodes, l, table)
	}
}

func TestTablesOfAnyShards(t *testing.T) { // whether they follow isn't asked
	a, b := partsOf(0, make([][]int, 9)).text(), partsOf(3, [][]int{{0, 1, 2}, {19}}).text()
	want := []api.Shard{{First: 3, Bytes: len(b)}, {First: 0, Bytes: len(a)}, {First: 3, Bytes: len(b)}}
	if l, e := shard.Table(20, b, a, b); e != nil || !slices.Equal(l, want) {
		t.Errorf("%v, %v; want %v", l, e, want)
	}
	for _, nodes := range []int{0, 20, maxNodes} {
		if l, e := shard.Table(nodes); e != nil || len(l) != 0 {
			t.Errorf("Table(%d): %v, %v", nodes, l, e)
		}
	}
}

// TestMoreEdgesThanAGraphHas: such shards may be, but no graph is theirs.
func TestMoreEdgesThanAGraphHas(t *testing.T) {
	rows := graph(142, func(v, w int) bool { return true })
	a, b := partsOf(0, rows[:71]).text(), partsOf(71, rows[71:]).text()
	getIs(t, a, 142, 0, rows[:71])
	getIs(t, b, 142, 71, rows[71:])
	c, e := shard.Join(142, a, b)
	if fault := (api.Fault{}); c != nil || !errors.As(e, &fault) || api.Code(e) != int(api.ErrGraph) || fault.At != 20000 {
		t.Errorf("%v, %v", c, e)
	}
	joinFails(t, 142, []string{a, b + "\x00"}, fault{api.ErrForm, len(b)}, 1) // what is none comes ahead
	outOfOrder(t, 142, 2, a, b, b)
}

func TestAnswersShareNothing(t *testing.T) {
	rows := graph(20, func(v, w int) bool { return w > v })
	c := build(t, rows)
	s, _ := shard.Put(c, 0, 20)
	x, _ := shard.Get(s, 20)
	y, _ := shard.Get(s, 20)
	for i, l := range x.Rows {
		_ = append(l[:0], make([]int, len(l)+9)...)
		for j := range l {
			l[j] = 99
		}
		for k := i + 1; k < 20; k++ {
			if !slices.Equal(x.Rows[k], rows[k]) {
				t.Fatal("two rows of one answer share memory")
			}
		}
	}
	if !equalRows(y.Rows, rows) {
		t.Error("two answers of Get share memory")
	}
	l, _ := shard.Find(s, 20, 3)
	l[0] = 99
	findIs(t, s, 20, 3, rows[3])
	table, _ := shard.Table(20, s)
	table[0].First = 99
	if again, _ := shard.Table(20, s); again[0].First != 0 {
		t.Error("two answers of Table share memory")
	}
	if again, _ := shard.Put(c, 0, 20); again != s {
		t.Error("the graph was written into")
	}
}
