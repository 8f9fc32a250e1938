package edges_test

import (
	"errors"
	"math"
	"regexp"
	"slices"
	"strconv"
	"strings"
	"testing"

	"lading/api"
	"lading/edges"
)

// All tests here are of promise P4.1.

const (
	maxNodes = 4096
	maxEdges = 20000
	farthest = 999999999
)

// far are numbers that are no node's, however many nodes there are.
var far = []int{-1, -2, -maxNodes, maxNodes, maxNodes + 1, 1 << 32, -1 << 32, 1<<32 + 1, math.MaxInt, math.MinInt, math.MinInt + 1}

// list is edges, from pairs of numbers.
func list(ends ...int) []api.Edge {
	var l []api.Edge
	for i := 0; i < len(ends); i += 2 {
		l = append(l, api.Edge{From: ends[i], To: ends[i+1]})
	}
	return l
}

// picker is numbers below n, one after the other, always the same ones.
func picker(seed uint32) func(n int) int {
	x := seed
	return func(n int) int {
		x = x*1664525 + 1013904223
		return int(x>>8) % n
	}
}

// some is that many edges of a graph, in no order; those of few nodes are there often.
func some(pick func(int) int, nodes, many int) []api.Edge {
	l := make([]api.Edge, many)
	for i := range l {
		l[i] = api.Edge{From: pick(nodes), To: pick(nodes)}
	}
	return l
}

// model is the edges normalised, by asking for each that may be whether it is there.
func model(nodes int, l []api.Edge) []api.Edge {
	there := make(map[api.Edge]int)
	for _, x := range l {
		there[x]++
	}
	var norm []api.Edge
	for from := range nodes {
		for to := range nodes {
			if there[api.Edge{From: from, To: to}] > 0 {
				norm = append(norm, api.Edge{From: from, To: to})
			}
		}
	}
	return norm
}

func isFault(t *testing.T, e error, want api.Errno, at int) bool {
	t.Helper()
	if e == nil {
		t.Errorf("no error, want %d at %d", want, at)
		return false
	}
	f, ok := e.(api.Fault)
	if !ok || f.At != at || !errors.Is(f.Err, want) {
		t.Errorf("error %d at %d, want %d at %d", api.Code(e), api.Place(e), want, at)
		return false
	}
	return true
}

// mayBe: Check and Norm take the graph.
func mayBe(t *testing.T, nodes int, l []api.Edge) {
	t.Helper()
	if e := edges.Check(nodes, l); e != nil {
		t.Errorf("Check of %d nodes, %d edges: %d at %d", nodes, len(l), api.Code(e), api.Place(e))
	}
	if _, e := edges.Norm(nodes, l); e != nil {
		t.Errorf("Norm of %d nodes, %d edges: %d at %d", nodes, len(l), api.Code(e), api.Place(e))
	}
}

// mayNotBe: Check and Norm refuse the graph, and leave its list as it was.
func mayNotBe(t *testing.T, nodes int, l []api.Edge, at int) {
	t.Helper()
	kept := slices.Clone(l)
	isFault(t, edges.Check(nodes, l), api.ErrGraph, at)
	x, e := edges.Norm(nodes, l)
	isFault(t, e, api.ErrGraph, at)
	if len(x) != 0 {
		t.Errorf("with an error Norm answers %d edges", len(x))
	}
	if !slices.Equal(l, kept) {
		t.Error("the list was written into")
	}
}

func normIs(t *testing.T, nodes int, l, want []api.Edge) {
	t.Helper()
	kept := slices.Clone(l)
	x, e := edges.Norm(nodes, l)
	if e != nil || !slices.Equal(x, want) {
		t.Errorf("Norm of %d nodes, %d edges: %.200v, %v; want %.200v", nodes, len(l), x, e, want)
	}
	again, e := edges.Norm(nodes, x)
	if e != nil || !slices.Equal(again, want) {
		t.Errorf("normalised again: %.200v, %v; want %.200v", again, e, want)
	}
	if !slices.Equal(l, kept) {
		t.Error("the list was written into")
	}
}

func parseIs(t *testing.T, s string, nodes int, l []api.Edge) {
	t.Helper()
	if n, x, e := edges.Parse(s); n != nodes || !slices.Equal(x, l) || e != nil {
		t.Errorf("Parse(%.60q): %d, %.200v, %v; want %d, %.200v", s, n, x, e, nodes, l)
	}
}

func parseFails(t *testing.T, s string, at int) {
	t.Helper()
	n, l, e := edges.Parse(s)
	if !isFault(t, e, api.ErrForm, at) {
		t.Errorf("of Parse(%.60q)", s)
	}
	if n != 0 || len(l) != 0 {
		t.Errorf("with an error Parse(%.60q) answers %d, %d edges", s, n, len(l))
	}
}

func TestHowManyNodesMayBe(t *testing.T) {
	for _, n := range []int{0, 1, 2, maxNodes - 1, maxNodes} {
		mayBe(t, n, nil)
		mayBe(t, n, []api.Edge{})
	}
	for _, n := range far {
		if n != maxNodes {
			mayNotBe(t, n, nil, -1)
			mayNotBe(t, n, []api.Edge{}, -1)
			mayNotBe(t, n, list(0, 0), -1)
		}
	}
}

func TestHowManyEdgesMayBe(t *testing.T) {
	pick := picker(1)
	for _, n := range []int{1, maxEdges - 1, maxEdges} {
		mayBe(t, 1, make([]api.Edge, n))
		mayBe(t, maxNodes, some(pick, maxNodes, n))
	}
	for _, n := range []int{maxEdges + 1, maxEdges + 2, 2 * maxEdges, 1 << 16} {
		mayNotBe(t, 1, make([]api.Edge, n), maxEdges)
		mayNotBe(t, maxNodes, some(pick, maxNodes, n), maxEdges)
	}
}

func TestWhichEndsMayBe(t *testing.T) {
	for _, n := range []int{1, 2, 3, 300, maxNodes - 1, maxNodes} {
		mayBe(t, n, list(0, 0, n-1, 0, 0, n-1, n-1, n-1))
		for _, v := range append([]int{n, n + 1, -n, -n - 1}, far...) {
			if v >= 0 && v < n {
				continue
			}
			mayNotBe(t, n, list(v, 0), 0)
			mayNotBe(t, n, list(0, v), 0)
			mayNotBe(t, n, list(v, v), 0)
			mayNotBe(t, n, list(0, 0, n-1, n-1, 0, v), 2)
		}
	}
	for _, v := range append([]int{0, 1}, far...) { // no nodes, no edges
		mayNotBe(t, 0, list(v, v), 0)
		mayNotBe(t, 0, list(v, 0), 0)
	}
}

func TestTheFirstEdgeThatMayNotBeIsTold(t *testing.T) {
	good, bad := api.Edge{From: 1, To: 2}, []api.Edge{{From: 3, To: 0}, {From: 0, To: 3}, {From: -1, To: 0}, {From: 0, To: -1}}
	for _, n := range []int{1, 2, 7, 100} {
		for at := range n {
			for i, x := range bad {
				l := slices.Repeat([]api.Edge{good}, n)
				l[at] = x
				mayNotBe(t, 3, l, at)
				for behind := at + 1; behind < n; behind++ {
					l[behind] = bad[(i+behind)%len(bad)]
				}
				mayNotBe(t, 3, l, at)
			}
		}
	}
	l := slices.Repeat([]api.Edge{good}, maxEdges)
	l[maxEdges-1] = bad[0]
	mayNotBe(t, 3, l, maxEdges-1)
}

// TestOrderOfFaults: nodes, then how many edges, then which.
func TestOrderOfFaults(t *testing.T) {
	tooMany := make([]api.Edge, maxEdges+1)
	tooMany[0].From = -1
	wrong := list(-1, 5)
	mayNotBe(t, -1, tooMany, -1)
	mayNotBe(t, maxNodes+1, tooMany, -1)
	mayNotBe(t, -1, wrong, -1)
	mayNotBe(t, maxNodes+1, wrong, -1)
	mayNotBe(t, 3, tooMany, maxEdges)
	mayNotBe(t, 0, tooMany, maxEdges)
	mayNotBe(t, 3, wrong, 0)
}

func TestNormOfFewEdges(t *testing.T) {
	normIs(t, 0, nil, nil)
	normIs(t, 0, []api.Edge{}, nil)
	normIs(t, maxNodes, nil, nil)
	normIs(t, 1, list(0, 0), list(0, 0))
	normIs(t, 3, list(2, 0, 0, 1, 2, 0), list(0, 1, 2, 0))
	normIs(t, 3, list(1, 1, 1, 1, 1, 1), list(1, 1))
	normIs(t, 2, list(0, 1, 1, 0), list(0, 1, 1, 0)) // the other way round is another edge
	normIs(t, 11, list(10, 2, 2, 10, 9, 0, 2, 9), list(2, 9, 2, 10, 9, 0, 10, 2))
	normIs(t, maxNodes, list(maxNodes-1, 0, 0, maxNodes-1, 1, 0), list(0, maxNodes-1, 1, 0, maxNodes-1, 0))
}

func TestNormInAnyOrder(t *testing.T) {
	want := list(0, 0, 0, 2, 1, 0, 1, 1, 2, 1)
	var arrange func(ahead, left []api.Edge)
	arrange = func(ahead, left []api.Edge) {
		if len(left) == 0 {
			normIs(t, 3, ahead, want)
		}
		for i, x := range left {
			arrange(append(slices.Clone(ahead), x), slices.Delete(slices.Clone(left), i, i+1))
		}
	}
	arrange(nil, want)
	arrange(nil, append(slices.Clone(want), want[0], want[3]))
}

func TestNormIsTheModels(t *testing.T) {
	pick := picker(7)
	for i := range 400 {
		nodes := 1 + pick(12)
		l := some(pick, nodes, pick(3*i/4+2))
		normIs(t, nodes, l, model(nodes, l))
	}
	l := some(pick, 300, maxEdges)
	normIs(t, 300, l, model(300, l))
}

func TestNormOfTheGreatestGraphs(t *testing.T) {
	normIs(t, maxNodes, slices.Repeat(list(maxNodes-1, maxNodes-1), maxEdges), list(maxNodes-1, maxNodes-1))
	var rising []api.Edge
	for i := range maxEdges {
		rising = append(rising, api.Edge{From: maxNodes - 5 + i/maxNodes, To: i % maxNodes})
	}
	normIs(t, maxNodes, rising, rising)
	falling := slices.Clone(rising)
	slices.Reverse(falling)
	normIs(t, maxNodes, falling, rising)
}

func TestSame(t *testing.T) {
	l := list(2, 1, 0, 2, 2, 1)
	lists := [][]api.Edge{
		nil, l, l[:1], l[:2], list(2, 1, 2, 1, 0, 2), list(0, 2, 2, 1, 2, 1), list(2, 1, 0, 2, 2, 0), list(2, 1, 0, 2, 1, 1),
		list(1, 2, 2, 0, 1, 2), list(2, 1, 0, 2, 2, 1, 2, 1), list(2, 1, 0, 2), list(-2, -1), list(2, -1), list(0, 0), list(0, 0, 0, 0),
	}
	text := func(x []api.Edge) string { return edges.Text(0, x) }
	for _, a := range lists {
		for _, b := range lists {
			want := text(a) == text(b)
			if edges.Same(a, b) != want || edges.Same(slices.Clone(a), slices.Clone(b)) != want {
				t.Errorf("Same(%v, %v) isn't %v", a, b, want)
			}
		}
	}
	if !edges.Same(nil, []api.Edge{}) || !edges.Same([]api.Edge{}, nil) || !edges.Same([]api.Edge{}, l[:0]) {
		t.Error("an empty list isn't no list")
	}
	long := some(picker(3), maxNodes, maxEdges+1)
	other := slices.Clone(long)
	if !edges.Same(long, other) {
		t.Error("a long list isn't the same")
	}
	other[maxEdges].To++
	if edges.Same(long, other) {
		t.Error("long lists that differ in the end are the same")
	}
}

func TestDegree(t *testing.T) {
	l := list(2, 1, 0, 2, 2, 1, 2, 0, 1, 1, -3, 2, 5000, 2, math.MinInt, 0, math.MaxInt, 0)
	for v, want := range map[int]int{2: 3, 0: 1, 1: 1, 3: 0, -1: 0, -3: 1, 5000: 1, 4: 0, math.MinInt: 1, math.MaxInt: 1} {
		if got := edges.Degree(l, v); got != want {
			t.Errorf("from %d go %d, want %d", v, got, want)
		}
	}
	if edges.Degree(nil, 0) != 0 || edges.Degree([]api.Edge{}, 0) != 0 {
		t.Error("of no edges some go from 0")
	}
	if got := edges.Degree(make([]api.Edge, maxEdges+1), 0); got != maxEdges+1 {
		t.Errorf("of edges that stand often %d, want %d", got, maxEdges+1)
	}
}

func TestTurned(t *testing.T) {
	l := list(2, 1, 0, 2, 2, 1, 1, 1, -3, 5000, math.MinInt, math.MaxInt)
	want := list(1, 2, 2, 0, 1, 2, 1, 1, 5000, -3, math.MaxInt, math.MinInt)
	kept := slices.Clone(l)
	got := edges.Turned(l)
	if !slices.Equal(got, want) || !slices.Equal(edges.Turned(got), l) {
		t.Errorf("turned %v, want %v", got, want)
	}
	if !slices.Equal(l, kept) {
		t.Error("the list was written into")
	}
	if len(edges.Turned(nil)) != 0 || len(edges.Turned([]api.Edge{})) != 0 {
		t.Error("no edges turned are some")
	}
	many := some(picker(5), maxNodes, maxEdges+1)
	got = edges.Turned(many)
	for i, x := range many {
		if got[i] != (api.Edge{From: x.To, To: x.From}) {
			t.Fatalf("edge %d, %v, turned is %v", i, x, got[i])
		}
	}
}

func TestText(t *testing.T) {
	for want, l := range map[string][]api.Edge{
		"7":                      nil,
		"7 0>0":                  list(0, 0),
		"7 2>1 0>2 2>1":          list(2, 1, 0, 2, 2, 1),
		"7 10>4095 100>2":        list(10, 4095, 100, 2),
		"7 -1>2 2>-30 -4>-5 9>9": list(-1, 2, 2, -30, -4, -5, 9, 9),
		"7 9223372036854775807>-9223372036854775808": list(math.MaxInt, math.MinInt),
	} {
		if got := edges.Text(7, l); got != want {
			t.Errorf("%v told as %q, want %q", l, got, want)
		}
	}
	for want, n := range map[string]int{"0": 0, "-1": -1, "4096": 4096, "4097": 4097, "-9223372036854775808": math.MinInt} {
		if got := edges.Text(n, []api.Edge{}); got != want {
			t.Errorf("%d nodes told as %q, want %q", n, got, want)
		}
	}
}

func TestWhatIsToldIsParsed(t *testing.T) {
	pick := picker(11)
	numbers := []int{0, 1, 9, 10, 99, 100, 4095, 4096, 4097, 99999999, 100000000, 123456789, farthest - 1, farthest}
	for _, n := range numbers {
		for _, n := range []int{n, -n} {
			parseIs(t, edges.Text(n, nil), n, nil)
			for _, m := range numbers {
				l := list(n, m, m, n, -m, n, n, m, n, -m) // as they stand: no order, one twice
				parseIs(t, edges.Text(n, l), n, l)
			}
		}
	}
	for _, many := range []int{maxEdges, maxEdges + 1} { // Parse tells what may not be, too
		l := some(pick, maxNodes, many)
		parseIs(t, edges.Text(maxNodes, l), maxNodes, l)
	}
}

func TestParseOfPlainTexts(t *testing.T) {
	parseIs(t, "0", 0, nil)
	parseIs(t, "-1", -1, nil)
	parseIs(t, "3 0>2 1>1 2>0 2>1", 3, list(0, 2, 1, 1, 2, 0, 2, 1))
	parseIs(t, "3 2>1 0>2 2>1", 3, list(2, 1, 0, 2, 2, 1))
	parseIs(t, "-999999999 -999999999>999999999", -farthest, list(-farthest, farthest))
	parseIs(t, "1 -2>-3 0>-4", 1, list(-2, -3, 0, -4))
}

// notNumbers are words as which no number is told.
var notNumbers = []string{
	"", "-", "--1", "-0", "-00", "00", "01", "-01", "0000000001", "+1", "+0", "+", "1+", "1-", "1-1", "x", "1x", "x1", "0x1", "1e3", "1.0", ".", ",",
	"1_0", "1\n", "\n1", "\t1", "1\t", "\r", "1\x00", "\x00", "\xff", "\u0663", "\u00b2", "\uff11", "\u22121", "1\u00a0", "\u00a0",
	"1234567890", "-1234567890", "1000000000", "-1000000000", "9223372036854775807", "-9223372036854775808", "9223372036854775808",
	"18446744073709551617", "-18446744073709551615", "4294967297", strings.Repeat("1", 1000),
}

func TestFirstWordsThatTellNoNumber(t *testing.T) {
	for _, w := range append([]string{">", "1>", ">1", "1>2", "<", "1>2>3"}, notNumbers...) {
		parseFails(t, w, 0)
		parseFails(t, w+" 1>2", 0)
		parseFails(t, w+" x", 0)
		parseFails(t, w+" ", 0)
		parseFails(t, " "+w, 0)
	}
}

func TestWordsThatTellNoEdge(t *testing.T) {
	words := []string{"", "3", "-3", ">", ">>", "1>>2", "1>2>", ">1>2", "1>2>3", "1<2", "1->2", "1=>2", "1-2", "1,2", "1>2,", "1\u203a2", "1>2\n", "1>2\t2>3"}
	for _, w := range notNumbers {
		words = append(words, w, w+">1", "1>"+w, w+">"+w)
	}
	for _, w := range words {
		parseFails(t, "3 "+w, 1)
		parseFails(t, "-3 1>2 "+w, 2)
		parseFails(t, "3 1>2 -1>-2 "+w+" 1>2", 3)
		parseFails(t, "3 1>2 "+w+" "+w+" x", 2) // the first of several
		parseFails(t, "3 1>2 5000>2 "+w+" ", 3)
	}
	many := edges.Text(3, make([]api.Edge, maxEdges+1))
	parseFails(t, many+" ", maxEdges+2)
	parseFails(t, many+" 1", maxEdges+2)
	parseFails(t, strings.Replace(many, "0>0", "0>00", 1), 1)
}

var (
	isNumber = regexp.MustCompile(`^(0|-?[1-9][0-9]{0,8})$`)
	isEdge   = regexp.MustCompile(`^(0|-?[1-9][0-9]{0,8})>(0|-?[1-9][0-9]{0,8})$`)
)

// told is what a text tells, or the first of its words that tells nothing.
func told(s string) (nodes int, l []api.Edge, at int) {
	for i, w := range strings.Split(s, " ") {
		switch {
		case i == 0 && isNumber.MatchString(w):
			nodes, _ = strconv.Atoi(w)
		case i > 0 && isEdge.MatchString(w):
			m := isEdge.FindStringSubmatch(w)
			from, _ := strconv.Atoi(m[1])
			to, _ := strconv.Atoi(m[2])
			l = append(l, api.Edge{From: from, To: to})
		default:
			return 0, nil, i
		}
	}
	return nodes, l, -1
}

func parseIsTold(t *testing.T, s string) {
	t.Helper()
	nodes, l, at := told(s)
	if at >= 0 {
		parseFails(t, s, at)
		return
	}
	parseIs(t, s, nodes, l)
	n, x, _ := edges.Parse(s)
	if again := edges.Text(n, x); again != s {
		t.Errorf("%q is told again as %q", s, again)
	}
}

func TestAllShortTexts(t *testing.T) {
	signs := "01->+ "
	var grow func(s string, left int)
	grow = func(s string, left int) {
		parseIsTold(t, s)
		for i := range len(signs) {
			if left > 0 {
				grow(s+signs[i:i+1], left-1)
			}
		}
	}
	grow("", 6)
	for i := range len(signs) {
		grow("3 2>-1 2"+signs[i:i+1], 4)
	}
	for i := range 256 {
		b := string([]byte{byte(i)})
		for _, s := range []string{b, "1" + b, b + "1", "1 " + b, "1 2>" + b, "1 2>3" + b, "1 2" + b + "3", "1" + b + "2>3"} {
			parseIsTold(t, s)
		}
	}
}

func TestAnyTextsOfSomeSigns(t *testing.T) {
	pick := picker(13)
	signs := "00123456789999->>   +x"
	for range 20000 {
		b := []byte(edges.Text(pick(5000)-100, some(pick, 5000, pick(5))))
		for range pick(3) {
			at := pick(len(b))
			b[at] = signs[pick(len(signs))]
		}
		parseIsTold(t, string(b))
	}
}

func TestAnswersShareNothingWithTheLists(t *testing.T) {
	given := list(0, 1, 1, 2, 2, 0) // normalised: what is answered could be it
	l := slices.Clone(given)
	norm, _ := edges.Norm(3, l)
	turned := edges.Turned(l)
	norm[0], turned[0] = api.Edge{From: 9, To: 9}, api.Edge{From: 8, To: 8}
	_ = append(norm[:1], turned...)
	if !slices.Equal(l, given) {
		t.Errorf("what is answered lies in the list that was handed in: %v", l)
	}
	room := make([]api.Edge, 3, 9)
	copy(room, given)
	norm, _ = edges.Norm(3, room)
	_ = append(norm, list(7, 7)...)
	_ = append(edges.Turned(room), list(6, 6)...)
	if !slices.Equal(room[:9], append(slices.Clone(given), make([]api.Edge, 6)...)) {
		t.Errorf("what is answered lies in the room of the list that was handed in: %v", room[:9])
	}
}
