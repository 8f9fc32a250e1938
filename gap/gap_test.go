package gap_test

import (
	"errors"
	"math"
	"slices"
	"strings"
	"testing"

	"lading/api"
	"lading/gap"
)

// All tests here are of promise P6.1.

const (
	maxNodes = 4096
	greatest = 1<<56 - 1
)

// far are numbers that are no node's, however many nodes there are.
var far = []int{-1, -2, -maxNodes, maxNodes, maxNodes + 1, 1 << 32, -1 << 32, 1<<32 + 1, 1 << 56, math.MaxInt, math.MaxInt - 1, math.MinInt, math.MinInt + 1}

// noCounts are what no graph has as many nodes as.
var noCounts = []int{-1, -2, maxNodes + 1, 1 << 32, 1<<32 + 1, math.MaxInt, math.MinInt}

// around are bytes that may stand ahead of a row, and behind it.
var around = []string{"", "\x00", "\x80", "\x01\x00", "\xff\xff\xff\xff\xff\xff\xff\xff\xff"}

// short is a short number's bytes, digit by digit.
func short(x int) string {
	if x < 128 {
		return string([]byte{byte(x)})
	}
	return string([]byte{byte(x%128 + 128)}) + short(x/128)
}

func turned(x int) string {
	if x < 0 {
		return short(-2*x - 1)
	}
	return short(2 * x)
}

// numbers are those of a row, each as its bytes.
func numbers(v int, l []int) []string {
	out := []string{short(len(l))}
	for i, w := range l {
		if i == 0 {
			out = append(out, turned(w-v))
		} else {
			out = append(out, short(w-l[i-1]-1))
		}
	}
	return out
}

// fault is an error's number, and its place.
type fault struct {
	err api.Errno
	at  int
}

func (f fault) is(t *testing.T, e error, who string) {
	t.Helper()
	x, ok := e.(api.Fault)
	if !ok || x.At != f.at || !errors.Is(x.Err, f.err) {
		t.Errorf("%s: error %d at %d, want %d at %d", who, api.Code(e), api.Place(e), f.err, f.at)
	}
}

func isPlain(t *testing.T, e error, want api.Errno, who string) {
	t.Helper()
	if e == nil || !errors.Is(e, want) || api.Place(e) != -1 {
		t.Errorf("%s: error %d at %d, want just %d", who, api.Code(e), api.Place(e), want)
	}
}

func getIs(t *testing.T, s string, at, nodes, v int, l []int, next int) {
	t.Helper()
	if got, behind, e := gap.Get(s, at, nodes, v); e != nil || behind != next || !slices.Equal(got, l) {
		t.Errorf("Get(%.40q, %d, %d, %d): %.100v, %d, %d at %d; want %.100v, %d", s, at, nodes, v, got, behind, api.Code(e), api.Place(e), l, next)
	}
}

func getFails(t *testing.T, s string, at, nodes, v int, want fault) {
	t.Helper()
	l, next, e := gap.Get(s, at, nodes, v)
	want.is(t, e, "Get")
	if len(l) != 0 || next != at {
		t.Errorf("with an error Get(%.40q, %d, %d, %d): %.100v, %d", s, at, nodes, v, l, next)
	}
}

func skipIs(t *testing.T, s string, at, nodes, next int) {
	t.Helper()
	if got, e := gap.Skip(s, at, nodes); e != nil || got != next {
		t.Errorf("Skip(%.40q, %d, %d): %d, %d at %d; want %d", s, at, nodes, got, api.Code(e), api.Place(e), next)
	}
}

func skipFails(t *testing.T, s string, at, nodes int, want fault) {
	t.Helper()
	next, e := gap.Skip(s, at, nodes)
	want.is(t, e, "Skip")
	if next != at {
		t.Errorf("with an error Skip(%.40q, %d, %d): %d", s, at, nodes, next)
	}
}

func countIs(t *testing.T, s string, at, nodes, want int) {
	t.Helper()
	if n, e := gap.Count(s, at, nodes); e != nil || n != want {
		t.Errorf("Count(%.40q, %d, %d): %d, %d at %d; want %d", s, at, nodes, n, api.Code(e), api.Place(e), want)
	}
}

func countFails(t *testing.T, s string, at, nodes int, want fault) {
	t.Helper()
	n, e := gap.Count(s, at, nodes)
	want.is(t, e, "Count")
	if n != 0 {
		t.Errorf("with an error Count(%.40q, %d, %d): %d", s, at, nodes, n)
	}
}

func allFail(t *testing.T, s string, at, nodes, v int, want fault) {
	t.Helper()
	getFails(t, s, at, nodes, v, want)
	skipFails(t, s, at, nodes, want)
	countFails(t, s, at, nodes, want)
}

func putFails(t *testing.T, nodes, v int, l []int) error {
	t.Helper()
	kept := slices.Clone(l)
	s, e := gap.Put(nodes, v, l...)
	if s != "" || e == nil || gap.Size(nodes, v, l...) != 0 {
		t.Errorf("Put(%d, %d, %.100v): %q, %v, of size %d", nodes, v, l, s, e, gap.Size(nodes, v, l...))
	}
	if !slices.Equal(l, kept) {
		t.Error("the list was written into")
	}
	return e
}

// isRow: the targets are put as they should be, and read so wherever they stand.
func isRow(t *testing.T, nodes, v int, l []int) {
	t.Helper()
	kept := slices.Clone(l)
	want := strings.Join(numbers(v, l), "")
	s, e := gap.Put(nodes, v, l...)
	if s != want || e != nil {
		t.Errorf("Put(%d, %d, %.100v): %.100q, %v; want %.100q", nodes, v, l, s, e, want)
	}
	if n := gap.Size(nodes, v, l...); n != len(want) {
		t.Errorf("Size(%d, %d, %.100v): %d, want %d", nodes, v, l, n, len(want))
	}
	if !slices.Equal(l, kept) {
		t.Error("the list was written into")
	}
	for _, a := range around {
		for _, b := range around {
			whole, end := a+want+b, len(a)+len(want)
			getIs(t, whole, len(a), nodes, v, l, end)
			skipIs(t, whole, len(a), nodes, end)
			countIs(t, whole, len(a), nodes, len(l))
		}
	}
}

// cutsFail: a row that ends too soon is too short, at the end of what is left of it.
func cutsFail(t *testing.T, nodes, v int, l []int) {
	t.Helper()
	row := numbers(v, l)
	s := strings.Join(row, "")
	for _, a := range around {
		for cut := range len(s) {
			x, want := a+s[:cut], fault{api.ErrShort, len(a) + cut}
			getFails(t, x, len(a), nodes, v, want)
			skipFails(t, x, len(a), nodes, want)
			if cut < len(row[0]) {
				countFails(t, x, len(a), nodes, want)
			} else {
				countIs(t, x, len(a), nodes, len(l))
			}
		}
	}
}

// subset is the numbers whose bits are there.
func subset(bits int) []int {
	var l []int
	for i := range 63 {
		if bits>>i&1 == 1 {
			l = append(l, i)
		}
	}
	return l
}

// span is the numbers from first to below end, each by so many above the one ahead of it.
func span(first, end, by int) []int {
	var l []int
	for w := first; w < end; w += by {
		l = append(l, w)
	}
	return l
}

func TestExample(t *testing.T) {
	if s, e := gap.Put(10, 4, 3, 4, 7); s != "\x03\x01\x00\x02" || e != nil {
		t.Errorf("%q, %v", s, e)
	}
	getIs(t, "\x03\x01\x00\x02", 0, 10, 4, []int{3, 4, 7}, 4)
}

func TestAllSmallRows(t *testing.T) {
	for nodes := range 8 {
		for v := range nodes {
			for bits := range 1 << nodes {
				isRow(t, nodes, v, subset(bits))
			}
		}
	}
}

func TestNumbersOfMoreBytes(t *testing.T) {
	for _, v := range []int{0, 1, 62, 63, 64, 65, 127, 128, 2000, 4031, 4032, maxNodes - 2, maxNodes - 1} {
		for _, by := range []int{-maxNodes, -4000, -129, -128, -66, -65, -64, -63, -1, 0, 1, 63, 64, 65, 128, 4000, maxNodes} {
			w := min(max(v+by, 0), maxNodes-1)
			isRow(t, maxNodes, v, []int{w})
			cutsFail(t, maxNodes, v, []int{w})
			for _, step := range []int{1, 2, 127, 128, 129, 130, 2000, maxNodes - 1} {
				l := span(w, min(maxNodes, w+4*step), step)
				isRow(t, maxNodes, v, l)
				cutsFail(t, maxNodes, v, l)
			}
		}
	}
	for _, x := range []struct {
		v, w int
		want string
	}{{0, 4095, "\x01\xfe\x3f"}, {4095, 0, "\x01\xfd\x3f"}, {0, 64, "\x01\x80\x01"}, {64, 0, "\x01\x7f"}, {65, 0, "\x01\x81\x01"}} {
		if s, e := gap.Put(maxNodes, x.v, x.w); s != x.want || e != nil {
			t.Errorf("Put(4096, %d, %d): %q, %v; want %q", x.v, x.w, s, e, x.want)
		}
	}
}

func TestRowsOfManyTargets(t *testing.T) {
	for _, nodes := range []int{1, 127, 128, 129, 1000, maxNodes - 1, maxNodes} {
		for _, v := range []int{0, nodes / 2, nodes - 1} {
			all := span(0, nodes, 1)
			isRow(t, nodes, v, all)
			isRow(t, nodes, v, all[1:])
			isRow(t, nodes, v, all[:nodes-1])
			isRow(t, nodes, v, span(0, nodes, 2))
		}
	}
	cutsFail(t, 300, 299, span(0, 300, 1))
}

func TestNoTargets(t *testing.T) {
	for _, l := range [][]int{nil, {}} {
		isRow(t, 1, 0, l)
		isRow(t, maxNodes, maxNodes-1, l)
	}
	if s, e := gap.Put(10, 3); s != "\x00" || e != nil {
		t.Errorf("%q, %v", s, e)
	}
}

func TestRowsOneBehindTheOther(t *testing.T) {
	const nodes = 200
	var rows [][]int
	s := ""
	for v := range nodes {
		l := span(v*v%nodes, nodes, 1+v%7)
		x, e := gap.Put(nodes, v, l...)
		if e != nil {
			t.Fatal(e)
		}
		rows = append(rows, l)
		s += x
	}
	at := 0
	for v, l := range rows {
		next := at + gap.Size(nodes, v, l...)
		getIs(t, s, at, nodes, v, l, next)
		skipIs(t, s, at, nodes, next)
		countIs(t, s, at, nodes, len(l))
		at = next
	}
	if at != len(s) {
		t.Errorf("the rows end at %d of %d bytes", at, len(s))
	}
	allFail(t, s, at, nodes, 0, fault{api.ErrShort, at}) // the end is a place, at which nothing stands
}

func TestPutRefuses(t *testing.T) {
	for _, nodes := range noCounts {
		for _, v := range append([]int{0, 5}, far...) { // asked ahead of v, and of the targets
			isPlain(t, putFails(t, nodes, v, nil), api.ErrArg, "Put")
			isPlain(t, putFails(t, nodes, v, []int{-1}), api.ErrArg, "Put")
		}
	}
	for _, nodes := range []int{0, 1, 3, maxNodes} {
		for _, v := range append([]int{nodes, nodes + 1}, far...) {
			isPlain(t, putFails(t, nodes, v, nil), api.ErrRange, "Put")
			isPlain(t, putFails(t, nodes, v, []int{-1, -1}), api.ErrRange, "Put") // asked ahead of the targets
		}
	}
	for _, x := range []struct {
		nodes int
		l     []int
		at    int
	}{
		{3, []int{3}, 0}, {3, []int{-1}, 0}, {3, []int{0, 3}, 1}, {3, []int{0, 1, 2, 3}, 3}, {3, []int{0, -1}, 1},
		{3, []int{1, 1}, 1}, {3, []int{1, 0}, 1}, {3, []int{0, 2, 1, 7}, 2}, {3, []int{0, 1, 2, 2}, 3}, {3, []int{2, 0, 1}, 1},
		{3, []int{5, 0}, 0}, {1, []int{0, 0}, 1}, {1, []int{1}, 0}, {3, []int{0, 1, 2, 0, 1, 2}, 3},
		{maxNodes, []int{0, maxNodes - 1, maxNodes}, 2}, {maxNodes, append(span(0, maxNodes, 1), maxNodes-1), maxNodes},
	} {
		fault{api.ErrGraph, x.at}.is(t, putFails(t, x.nodes, 0, x.l), "Put")
		fault{api.ErrGraph, x.at}.is(t, putFails(t, x.nodes, x.nodes-1, x.l), "Put")
	}
	for _, w := range far {
		fault{api.ErrGraph, 0}.is(t, putFails(t, maxNodes, 9, []int{w}), "Put")
		fault{api.ErrGraph, 1}.is(t, putFails(t, maxNodes, 9, []int{4, w, 5}), "Put")
	}
}

// TestAllSmallLists: of any list at all just those are put that may be a row's, and the others are refused at the first that isn't so.
func TestAllSmallLists(t *testing.T) {
	const nodes = 3
	var l []int
	var grow func(wrong int)
	grow = func(wrong int) {
		if wrong == -1 {
			isRow(t, nodes, 1, l)
		} else {
			fault{api.ErrGraph, wrong}.is(t, putFails(t, nodes, 1, l), "Put")
		}
		if len(l) == 4 {
			return
		}
		for w := -1; w <= nodes; w++ {
			at := wrong
			if at == -1 && (!slices.Contains([]int{0, 1, 2}, w) || len(l) > 0 && slices.Max(l) >= w) {
				at = len(l)
			}
			l = append(l, w)
			grow(at)
			l = l[:len(l)-1]
		}
	}
	grow(-1)
}

func TestReadingRefusesNodes(t *testing.T) {
	for _, nodes := range noCounts {
		for _, s := range []string{"", "\x00", "\x01\x00", "\x80\x00"} { // asked ahead of what stands there
			for _, at := range []int{0, len(s), -1, len(s) + 1, math.MaxInt, math.MinInt} {
				for _, v := range []int{0, -1, 1 << 40} { // and of v
					allFail(t, s, at, nodes, v, fault{api.ErrArg, at})
				}
			}
		}
	}
	for _, nodes := range []int{0, 1, 3, maxNodes} {
		for _, v := range append([]int{nodes, nodes + 1}, far...) {
			for _, s := range []string{"", "\x00", "\x01\x00", "\x80\x00", "\xff\x7f"} {
				for _, at := range []int{0, len(s), -1, len(s) + 1, math.MaxInt, math.MinInt} { // asked ahead of the place
					getFails(t, s, at, nodes, v, fault{api.ErrRange, at})
				}
			}
		}
	}
}

func TestGraphsWithoutNodes(t *testing.T) { // no node has a row there, but one without targets is gone over
	for _, a := range around {
		skipIs(t, a+"\x00", len(a), 0, len(a)+1)
		countIs(t, a+"\x00", len(a), 0, 0)
		skipFails(t, a+"\x01\x00", len(a), 0, fault{api.ErrForm, len(a)})
		countFails(t, a+"\x01\x00", len(a), 0, fault{api.ErrForm, len(a)})
	}
}

func TestPlacesThatAreNone(t *testing.T) {
	for _, s := range []string{"", "\x00", "\x01\x00"} {
		for _, at := range []int{-1, -2, len(s) + 1, math.MaxInt, math.MinInt} {
			allFail(t, s, at, 3, 1, fault{api.ErrArg, at})
		}
	}
}

func TestMoreTargetsThanNodes(t *testing.T) {
	for _, nodes := range []int{1, 3, 127, 128, 1000, maxNodes} {
		for _, a := range around {
			for _, many := range []int{nodes + 1, nodes + 2, 1 << 32, greatest} {
				allFail(t, a+short(many), len(a), nodes, 0, fault{api.ErrForm, len(a)}) // ahead of what lacks
				allFail(t, a+short(many)+strings.Repeat("\x00", nodes+2), len(a), nodes, 0, fault{api.ErrForm, len(a)})
			}
			countIs(t, a+short(nodes), len(a), nodes, nodes)
			skipIs(t, a+short(nodes)+strings.Repeat("\x7f", nodes), len(a), nodes, len(a)+len(short(nodes))+nodes)
		}
	}
}

func TestTargetsThatAreNoNodes(t *testing.T) {
	for _, a := range around {
		at := len(a)
		for _, nodes := range []int{1, 3, 200, maxNodes} {
			for _, v := range []int{0, nodes / 2, nodes - 1} {
				for _, x := range []int{-v - 1, -v - 2, nodes - v, nodes - v + 1, -1 << 32, 1 << 32, -1 << 55, 1<<55 - 1} {
					getFails(t, a+"\x01"+turned(x), at, nodes, v, fault{api.ErrForm, at + 1})
					skipIs(t, a+"\x01"+turned(x), at, nodes, at+1+len(turned(x)))
				}
			}
		}
		for _, gapAhead := range []int{0, 1, 130} {
			head := "\x03" + turned(-9) + short(gapAhead) // of node 9: targets 0 and 1 + gapAhead
			last := 1 + gapAhead
			getIs(t, a+head+short(300-last-2), at, 300, 9, []int{0, last, 299}, at+len(head+short(300-last-2)))
			for _, x := range []int{300 - last - 1, 300 - last, maxNodes, 1 << 32, greatest} {
				getFails(t, a+head+short(x), at, 300, 9, fault{api.ErrForm, at + len(head)})
				skipIs(t, a+head+short(x), at, 300, at+len(head+short(x)))
			}
		}
		getFails(t, a+"\x02\x04", at, 3, 1, fault{api.ErrForm, at + 1}) // ahead of what lacks behind it
		getFails(t, a+"\x02\x04\x80\x00", at, 3, 1, fault{api.ErrForm, at + 1})
	}
}

func TestNumbersThatAreNone(t *testing.T) {
	row := numbers(4, []int{3, 4, 200})
	for i := range row {
		for _, bad := range []string{"\x80\x00", "\xff\x00", "\x83\x80\x00", strings.Repeat("\x80", 8), strings.Repeat("\xff", 9), strings.Repeat("\x80", 7) + "\x00"} {
			for _, a := range around {
				ahead := a + strings.Join(row[:i], "")
				s, want := ahead+bad+strings.Join(row[i+1:], ""), fault{api.ErrForm, len(ahead)}
				getFails(t, s, len(a), 300, 4, want)
				skipFails(t, s, len(a), 300, want)
				if i == 0 {
					countFails(t, s, len(a), 300, want)
				} else {
					countIs(t, s, len(a), 300, 3)
				}
			}
		}
	}
}

// reading is what is told of a row, number by number, by another way: all that Get and Skip should answer.
type reading struct {
	l         []int
	next      int
	get, skip fault // with error 0, if there is none
}

// shortAt reads a short number by trying whether what stands there is one's bytes.
func shortAt(s string, at int) (x, next int, f fault) {
	n := strings.IndexFunc(s[at:], func(r rune) bool { return r < 128 })
	if n == -1 && len(s)-at < 8 {
		return 0, at, fault{api.ErrShort, len(s)}
	}
	if n == -1 || n > 7 {
		return 0, at, fault{api.ErrForm, at}
	}
	for i := n; i >= 0; i-- {
		x = 128*x + int(s[at+i]&127)
	}
	if short(x) != s[at:at+n+1] {
		return 0, at, fault{api.ErrForm, at}
	}
	return x, at + n + 1, fault{}
}

func readAll(s string, nodes, v int) reading {
	many, at, f := shortAt(s, 0)
	if f.err == 0 && many > nodes {
		f = fault{api.ErrForm, 0}
	}
	r := reading{get: f, skip: f}
	last := 0
	for i := 0; i < many && r.skip.err == 0; i++ {
		x, next, f := shortAt(s, at)
		switch {
		case i == 0 && x%2 == 1:
			last = v - (x+1)/2
		case i == 0:
			last = v + x/2
		default:
			last += 1 + x
		}
		if r.get.err == 0 {
			r.get = f
		}
		if r.get.err == 0 && (last < 0 || last >= nodes) {
			r.get = fault{api.ErrForm, at}
		}
		r.l, r.skip, at = append(r.l, last), f, next
	}
	r.next = at
	return r
}

func (r reading) check(t *testing.T, s string, nodes, v int) {
	t.Helper()
	if r.get.err != 0 {
		getFails(t, s, 0, nodes, v, r.get)
	} else {
		getIs(t, s, 0, nodes, v, r.l, r.next)
		if x, e := gap.Put(nodes, v, r.l...); e != nil || x != s[:r.next] {
			t.Errorf("%v is got from %q, but put as %q, %v", r.l, s, x, e)
		}
	}
	if r.skip.err != 0 {
		skipFails(t, s, 0, nodes, r.skip)
	} else {
		skipIs(t, s, 0, nodes, r.next)
	}
}

// texts are all of some bytes, up to a length.
func texts(letters string, most int, visit func(string)) {
	var b []byte
	var grow func()
	grow = func() {
		visit(string(b))
		if len(b) == most {
			return
		}
		for i := range len(letters) {
			b = append(b, letters[i])
			grow()
			b = b[:len(b)-1]
		}
	}
	grow()
}

// TestAnyBytes: of any bytes at all targets are got just if these begin with a row of them.
func TestAnyBytes(t *testing.T) {
	all := make([]byte, 256)
	for i := range all {
		all[i] = byte(i)
	}
	texts(string(all), 2, func(s string) {
		readAll(s, 200, 70).check(t, s, 200, 70)
		readAll(s, 4, 2).check(t, s, 4, 2)
	})
	texts("\x00\x01\x02\x03\x04\x05\x80", 5, func(s string) {
		for v := range 3 {
			readAll(s, 3, v).check(t, s, 3, v)
		}
	})
	texts("\x01\x00\x80\xff", 7, func(s string) { readAll("\x01"+s, 2, 1).check(t, "\x01"+s, 2, 1) })
}

func TestAnswersShareNothing(t *testing.T) {
	s, _ := gap.Put(10, 4, 3, 4, 7)
	l, _, _ := gap.Get(s, 0, 10, 4)
	again, _, _ := gap.Get(s, 0, 10, 4)
	_ = append(l[:0], 9, 9, 9, 9, 9)
	if !slices.Equal(again, []int{3, 4, 7}) {
		t.Error("two answers of Get share memory")
	}
	getIs(t, s, 0, 10, 4, []int{3, 4, 7}, 4)
}
