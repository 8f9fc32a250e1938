package manifest_test

import (
	"crypto/sha256"
	"fmt"
	"math"
	"slices"
	"strings"
	"testing"
	"unsafe"

	"lading/api"
	"lading/csr"
	"lading/manifest"
	"lading/shard"
)

// All tests here are of promise P10.1.

const (
	maxVersion = 1 << 40
	maxNodes   = 4096
	maxEdges   = 20000
	maxShards  = 64
	maxBytes   = 1 << 20
	maxBlocks  = 2048
	greatest   = 1<<56 - 1
	noPlace    = -1
)

// far are numbers that are outside all that a manifest has.
var far = []int{-1, -2, -1 << 20, -1 << 32, -1 << 40, maxVersion + 1, 1 << 56, 1 << 57, math.MaxInt, math.MaxInt - 63, math.MinInt, math.MinInt + 1}

// sum is what another SHA-256 makes of texts.
func sum(l ...string) string {
	d := sha256.Sum256([]byte(strings.Join(l, "")))
	return string(d[:])
}

// rootOf is blocks' root, by layer 9's words.
func rootOf(l []string) string {
	switch len(l) {
	case 0:
		return sum("\x02")
	case 1:
		return sum("\x00", l[0])
	}
	k := 1
	for 2*k < len(l) {
		k *= 2
	}
	return sum("\x01", rootOf(l[:k]), rootOf(l[k:]))
}

// short is a short number's bytes, digit by digit.
func short(x int) string {
	if x < 128 {
		return string([]byte{byte(x)})
	}
	return string([]byte{byte(x%128 + 128)}) + short(x/128)
}

// pieces are a manifest's bytes: its numbers' one by one, and the root's.
func pieces(m api.Manifest) []string {
	l := []string{short(m.Version), short(m.Nodes), short(m.Edges), short(len(m.Shards))}
	for _, x := range m.Shards {
		l = append(l, short(x.First), short(x.Bytes))
	}
	return append(l, short(m.Blocks), short(len(m.Root))+m.Root)
}

func bytesOf(m api.Manifest) string { return strings.Join(pieces(m), "") }

// firstWrong is the first of a manifest's numbers by which it may not be; -1 if it may be.
func firstWrong(m api.Manifest) int {
	between := func(least, x, most int) bool { return least <= x && x <= most }
	is := []bool{between(1, m.Version, maxVersion), between(0, m.Nodes, maxNodes), between(0, m.Edges, maxEdges)}
	is = append(is, len(m.Shards) <= maxShards && (m.Nodes == 0) == (len(m.Shards) == 0))
	total := 0
	for i, x := range m.Shards {
		follows := x.First == 0
		if i > 0 {
			follows = x.First > m.Shards[i-1].First
		}
		is = append(is, follows && x.First < m.Nodes, between(3, x.Bytes, maxBytes))
		total += x.Bytes
	}
	many := 0
	for 64*many < total && many <= maxBlocks {
		many++
	}
	return slices.Index(append(is, m.Blocks == many && many <= maxBlocks, len(m.Root) == 32), false)
}

// sample is a manifest with shards of so many bytes, each with some nodes.
func sample(bytes ...int) api.Manifest {
	m := api.Manifest{Version: 7, Nodes: 3 * len(bytes), Edges: 200, Root: sum("root")}
	total := 0
	for i, n := range bytes {
		m.Shards = append(m.Shards, api.Shard{First: 3 * i, Bytes: n})
		total += n
	}
	m.Blocks = (total + 63) / 64
	return m
}

// samples may be; among them are those with the least, and the most of everything.
func samples() []api.Manifest {
	many := slices.Repeat([]int{2048}, maxShards)
	full := sample(many...)
	full.Version, full.Nodes, full.Edges = maxVersion, maxNodes, maxEdges
	full.Shards[maxShards-1].First = maxNodes - 1
	wide := sample(100)
	wide.Nodes, wide.Version, wide.Edges = 1, 1, 0
	narrow := sample(slices.Repeat([]int{3}, maxShards)...)
	narrow.Nodes = maxShards
	for i := range narrow.Shards {
		narrow.Shards[i].First = i
	}
	return []api.Manifest{sample(), sample(3), sample(64), sample(65, 3), sample(300, 5, 128), sample(maxBlocks*64-3, 3), full, wide, narrow}
}

// failsWith: an error of that number, in a fault at that place (noPlace: in none).
func failsWith(t *testing.T, e error, want api.Errno, at int, who string) {
	t.Helper()
	x, placed := e.(api.Fault)
	if placed {
		e = x.Err
	}
	n, plain := e.(api.Errno)
	if placed != (at != noPlace) || placed && x.At != at || !plain || n != want {
		t.Errorf("%s: error %d (placed: %v, at %d), want %d at %d", who, api.Code(e), placed, x.At, want, at)
	}
}

// told is all fields of a manifest.
func told(m api.Manifest) string {
	return fmt.Sprintf("%d %d %d %d %d %x", m.Version, m.Nodes, m.Edges, m.Shards, m.Blocks, m.Root)
}

func equal(a, b api.Manifest) bool { return told(a) == told(b) }

// mayBe: it is taken by all that check, and goes to its bytes and back.
func mayBe(t *testing.T, m api.Manifest) {
	t.Helper()
	if e := manifest.Check(m); e != nil {
		t.Errorf("Check(%s): error %d at %d", told(m), api.Code(e), api.Place(e))
	}
	s, e := manifest.Put(m)
	if s != bytesOf(m) || e != nil {
		t.Errorf("Put(%s): %q, error %d", told(m), s, api.Code(e))
	}
	if x, e := manifest.Get(bytesOf(m)); !equal(x, m) || e != nil {
		t.Errorf("Get of the bytes of %s: %s, error %d at %d", told(m), told(x), api.Code(e), api.Place(e))
	}
	for node := range m.Nodes {
		whereIs(t, m, node)
	}
}

// whereIs: the last shard that doesn't begin behind the node, and all bytes of those ahead of it.
func whereIs(t *testing.T, m api.Manifest, node int) {
	t.Helper()
	i, at := len(m.Shards)-1, 0
	for m.Shards[i].First > node {
		i--
	}
	for _, x := range m.Shards[:i] {
		at += x.Bytes
	}
	if n, begin, e := manifest.Where(m, node); n != i || begin != at || e != nil {
		t.Errorf("Where(.., %d): %d, %d, error %d; want %d, %d", node, n, begin, api.Code(e), i, at)
	}
}

// mayNotBe: all that check tell it at that number.
func mayNotBe(t *testing.T, m api.Manifest, at int) {
	t.Helper()
	who := told(m)
	failsWith(t, manifest.Check(m), api.ErrForm, at, "Check of "+who)
	s, e := manifest.Put(m)
	failsWith(t, e, api.ErrForm, at, "Put of "+who)
	if s != "" {
		t.Errorf("with an error Put of %s: %q", who, s)
	}
	for _, node := range []int{0, 1, m.Nodes - 1, m.Nodes, -1, math.MinInt, math.MaxInt} { // Check's error ahead of ErrRange
		i, begin, e := manifest.Where(m, node)
		failsWith(t, e, api.ErrForm, at, "Where of "+who)
		if i != 0 || begin != 0 {
			t.Errorf("with an error Where of %s: %d, %d", who, i, begin)
		}
	}
	if isWritable(m) && len(m.Shards) <= maxShards {
		getFails(t, bytesOf(m), api.ErrForm, at)
	}
}

// isWritable tells whether all of a manifest's numbers are short ones, though it may not be.
func isWritable(m api.Manifest) bool {
	l := []int{m.Version, m.Nodes, m.Edges, m.Blocks}
	for _, x := range m.Shards {
		l = append(l, x.First, x.Bytes)
	}
	return slices.Min(l) >= 0 && slices.Max(l) <= greatest
}

func getFails(t *testing.T, s string, want api.Errno, at int) {
	t.Helper()
	m, e := manifest.Get(s)
	failsWith(t, e, want, at, fmt.Sprintf("Get(%q)", s))
	if !equal(m, api.Manifest{}) {
		t.Errorf("with an error Get(%q): %s", s, told(m))
	}
}

func TestManifestsThatMayBe(t *testing.T) {
	for _, m := range samples() {
		if at := firstWrong(m); at != -1 {
			t.Fatalf("no sample: %s, at %d", told(m), at)
		}
		mayBe(t, m)
	}
}

func TestKnownBytes(t *testing.T) {
	root := strings.Repeat("r", 32)
	for want, m := range map[string]api.Manifest{
		"\x01\x00\x00\x00\x00 " + root:                             {Version: 1, Root: root},
		"\xac\x02\x05\x03\x01\x00\x41\x02 " + root:                 {Version: 300, Nodes: 5, Edges: 3, Shards: []api.Shard{{First: 0, Bytes: 65}}, Blocks: 2, Root: root},
		"\x02\x05\x03\x02\x00\x03\x04\x83\x01\x03 " + root:         {Version: 2, Nodes: 5, Edges: 3, Shards: []api.Shard{{First: 0, Bytes: 3}, {First: 4, Bytes: 131}}, Blocks: 3, Root: root},
		"\x80\x80\x80\x80\x80\x20\x00\xa0\x9c\x01\x00\x00 " + root: {Version: maxVersion, Edges: maxEdges, Root: root},
	} {
		if s, e := manifest.Put(m); s != want || e != nil {
			t.Errorf("Put(%s): %q, error %d", told(m), s, api.Code(e))
		}
		if x, e := manifest.Get(want); !equal(x, m) || e != nil {
			t.Errorf("Get(%q): %s, error %d", want, told(x), api.Code(e))
		}
	}
}

// change is one thing that is made another in a manifest.
type change func(*api.Manifest)

// numbers are those next to where one may no more be, and far ones.
func numbers(edges ...int) []int {
	l := slices.Clone(far)
	for _, x := range edges {
		l = append(l, x-1, x, x+1)
	}
	return l
}

// changes are those of each number of a manifest.
func changes(m api.Manifest) []change {
	var l []change
	for _, x := range numbers(0, 1, maxVersion) {
		l = append(l, func(m *api.Manifest) { m.Version = x })
	}
	for _, x := range numbers(0, 1, m.Nodes, maxNodes) {
		l = append(l, func(m *api.Manifest) { m.Nodes = x })
	}
	for _, x := range numbers(0, maxEdges) {
		l = append(l, func(m *api.Manifest) { m.Edges = x })
	}
	for _, x := range numbers(0, m.Blocks, maxBlocks) {
		l = append(l, func(m *api.Manifest) { m.Blocks = x })
	}
	for _, n := range []int{0, 1, 31, 33, 64, 127, 128, 300} {
		l = append(l, func(m *api.Manifest) { m.Root = strings.Repeat("\x20", n) })
	}
	for i, x := range m.Shards {
		before := m.Shards[max(i-1, 0)]
		for _, n := range numbers(0, x.First, before.First, m.Nodes) {
			l = append(l, func(m *api.Manifest) { m.Shards[i].First = n })
		}
		for _, n := range numbers(0, 3, x.Bytes, x.Bytes+64, maxBytes, before.Bytes) {
			l = append(l, func(m *api.Manifest) { m.Shards[i].Bytes = n })
		}
	}
	return l
}

// isAsSaid holds a manifest against the model.
func isAsSaid(t *testing.T, m api.Manifest) {
	t.Helper()
	if at := firstWrong(m); at != -1 {
		mayNotBe(t, m, at)
	} else {
		mayBe(t, m)
	}
}

func changed(m api.Manifest, l ...change) api.Manifest {
	m.Shards = slices.Clone(m.Shards)
	for _, c := range l {
		c(&m)
	}
	return m
}

func TestEachNumberIsChecked(t *testing.T) {
	for _, m := range samples() {
		l := changes(m)
		if len(m.Shards) > 8 {
			l = append(l[:120:120], l[len(l)-60:]...)
		}
		for _, c := range l {
			isAsSaid(t, changed(m, c))
		}
	}
}

// TestTheFirstWrongNumberIsTold: of two changes, made together.
func TestTheFirstWrongNumberIsTold(t *testing.T) {
	m := sample(300, 5, 128)
	l := changes(m)
	for i, c := range l {
		for _, d := range l[:i] {
			x := changed(m, d, c)
			at := firstWrong(x)
			if at == -1 {
				if e := manifest.Check(x); e != nil {
					t.Errorf("%s: error %d at %d", told(x), api.Code(e), api.Place(e))
				}
				continue
			}
			failsWith(t, manifest.Check(x), api.ErrForm, at, told(x))
		}
	}
}

func TestCountsOfShards(t *testing.T) {
	for _, n := range []int{1, 63, 64, 65, 66, 128, 300} {
		m := sample(slices.Repeat([]int{10}, n)...)
		isAsSaid(t, m)
		m.Nodes = 0
		mayNotBe(t, m, 3)
		m.Nodes, m.Shards[0].First, m.Blocks, m.Root = 3*n, 1, 0, ""
		isAsSaid(t, m)
	}
	m := sample()
	for _, n := range []int{1, 2, maxNodes} {
		m.Nodes = n
		mayNotBe(t, m, 3)
	}
}

func TestCountsOfBlocks(t *testing.T) {
	for _, l := range [][]int{{3}, {63}, {64}, {65}, {60, 4}, {60, 5}, {64, 64}, {127, 3}, {maxBlocks * 64}, {maxBlocks*64 + 1}, {maxBytes}, {maxBytes, maxBytes}, {maxBytes + 1}} {
		for off := -3; off <= 3; off++ {
			m := sample(l...)
			m.Blocks += off
			isAsSaid(t, m)
		}
		m := sample(l...)
		m.Blocks = maxBlocks
		isAsSaid(t, m)
	}
	mayNotBe(t, sample(maxBlocks*64, 3), 8)
	all := sample(slices.Repeat([]int{maxBytes}, maxShards)...)
	mayNotBe(t, all, 4+2*maxShards)
}

func TestCutBytesAreShort(t *testing.T) {
	for _, m := range samples() {
		s := bytesOf(m)
		for i := range len(s) {
			getFails(t, s[:i], api.ErrShort, i)
		}
	}
}

func TestBytesThatAreLeft(t *testing.T) {
	for _, m := range samples() {
		s := bytesOf(m)
		for _, more := range []string{"\x00", "\x80", "\xff\xff", s, strings.Repeat("\x00", 300)} {
			getFails(t, s+more, api.ErrForm, len(s))
		}
		m.Version, m.Root = 0, "r" // what it tells is asked behind that
		s = bytesOf(m)
		getFails(t, s+"\x00", api.ErrForm, len(s))
		getFails(t, s, api.ErrForm, 0)
	}
}

// TestNumbersThatAreNone: layer 1's errors, in order, ahead of what the numbers tell.
func TestNumbersThatAreNone(t *testing.T) {
	m := sample(300, 5, 128)
	m.Version, m.Nodes, m.Edges = 0, 0, maxEdges+1
	l := pieces(m)
	for i := range l {
		ahead := strings.Join(l[:i], "")
		for _, none := range []string{"\x80\x00", "\xff\x80\x00", strings.Repeat("\x80", 8), strings.Repeat("\xff", 9), strings.Repeat("\x80", 7) + "\x00"} {
			getFails(t, ahead+none+strings.Join(l[i+1:], ""), api.ErrForm, len(ahead))
			getFails(t, ahead+none, api.ErrForm, len(ahead))
		}
		getFails(t, ahead+"\x80", api.ErrShort, len(ahead)+1)
	}
}

// TestRootsOfAnyLength: they are read, and refused as Check does; those that aren't all there are too short.
func TestRootsOfAnyLength(t *testing.T) {
	m := sample(300, 5)
	ahead := bytesOf(m)
	ahead = ahead[:len(ahead)-33]
	for _, n := range []int{0, 1, 31, 33, 64, 127, 128, 300, 70000} {
		s := ahead + short(n) + strings.Repeat("r", n)
		getFails(t, s, api.ErrForm, 9)
		getFails(t, s+"r", api.ErrForm, len(s))
		if n > 0 {
			getFails(t, s[:len(s)-1], api.ErrShort, len(s)-1)
		}
	}
	for _, n := range []int{1 << 32, 1 << 40, greatest} {
		getFails(t, ahead+short(n), api.ErrShort, len(ahead+short(n)))
		getFails(t, ahead+short(n)+sum("root"), api.ErrShort, len(ahead+short(n))+32)
	}
}

// TestTooManyShardsAreToldAtOnce: whatever stands ahead of, and behind their count.
func TestTooManyShardsAreToldAtOnce(t *testing.T) {
	for _, version := range []int{0, 1, maxVersion + 1} {
		for _, n := range []int{65, 66, 127, 128, 1 << 32, greatest} {
			for _, behind := range []string{"", "\x00", "\x80", "\x80\x00", strings.Repeat("\xff", 9), strings.Repeat("\x00", 3*n%1000)} {
				getFails(t, short(version)+short(maxNodes+1)+short(0)+short(n)+behind, api.ErrForm, 3)
			}
		}
	}
	getFails(t, short(0)+short(1)+short(0)+short(64), api.ErrShort, 4)
	m := sample(slices.Repeat([]int{10}, 65)...)
	m.Version = 0
	getFails(t, bytesOf(m), api.ErrForm, 3)
	mayNotBe(t, m, 0)
	getFails(t, "\x80\x00"+bytesOf(m)[1:], api.ErrForm, 0)
}

// scan is what bytes tell, by another way: a manifest, or an error and its place.
type scan struct {
	s   string
	at  int
	err api.Errno
}

// next is the short number that stands next; 0 behind an error.
func (c *scan) next() int {
	if c.err != 0 {
		return 0
	}
	n := strings.IndexFunc(c.s[c.at:], func(r rune) bool { return r < 128 })
	if n == -1 && len(c.s)-c.at < 8 {
		c.at, c.err = len(c.s), api.ErrShort
		return 0
	}
	if n == -1 || n > 7 || n > 0 && c.s[c.at+n] == 0 {
		c.err = api.ErrForm
		return 0
	}
	x := 0
	for i := n; i >= 0; i-- {
		x = 128*x + int(c.s[c.at+i]&127)
	}
	c.at += n + 1
	return x
}

func (c *scan) manifest() api.Manifest {
	m := api.Manifest{Version: c.next(), Nodes: c.next(), Edges: c.next()}
	many := c.next()
	if c.err == 0 && many > maxShards {
		c.at, c.err = 3, api.ErrForm
	}
	for i := 0; i < many && c.err == 0; i++ {
		m.Shards = append(m.Shards, api.Shard{First: c.next(), Bytes: c.next()})
	}
	m.Blocks = c.next()
	n := c.next()
	switch {
	case c.err != 0:
	case n > len(c.s)-c.at:
		c.at, c.err = len(c.s), api.ErrShort
	case n < len(c.s)-c.at:
		c.at, c.err = c.at+n, api.ErrForm
	default:
		m.Root = c.s[c.at:]
		if at := firstWrong(m); at != -1 {
			c.at, c.err = at, api.ErrForm
		}
	}
	return m
}

// getIsAsSaid holds what Get tells of any bytes against the model; what is got is written so.
func getIsAsSaid(t *testing.T, s string) {
	t.Helper()
	c := scan{s: s}
	want := c.manifest()
	if c.err != 0 {
		getFails(t, s, c.err, c.at)
		return
	}
	m, e := manifest.Get(s)
	if !equal(m, want) || e != nil {
		t.Errorf("Get(%q): %s, error %d at %d; want %s", s, told(m), api.Code(e), api.Place(e), told(want))
	}
	if p, e := manifest.Put(m); p != s || e != nil {
		t.Errorf("Put of Get(%q): %q, error %d", s, p, api.Code(e))
	}
}

// TestSpoiltBytes: each byte another, left out, doubled, or with another one ahead of it.
func TestSpoiltBytes(t *testing.T) {
	two := sample(100, 28)
	two.Version = 128
	for _, m := range []api.Manifest{sample(), two, sample(64, 3, 61)} {
		s := bytesOf(m)
		for at := range len(s) {
			for b := range 256 {
				getIsAsSaid(t, s[:at]+string([]byte{byte(b)})+s[at+1:])
				getIsAsSaid(t, s[:at]+string([]byte{byte(b)})+s[at:])
			}
			getIsAsSaid(t, s[:at]+s[at+1:])
			getIsAsSaid(t, s[:at]+s[at:at+1]+s[at:])
		}
	}
}

// TestNothingElseIsGot: all short texts over some bytes.
func TestNothingElseIsGot(t *testing.T) {
	l := []string{""}
	for range 7 {
		var longer []string
		for _, s := range l {
			getIsAsSaid(t, s)
			for _, b := range []string{"\x00", "\x01", "\x05", "\x80"} {
				longer = append(longer, s+b)
			}
		}
		l = longer
	}
}

func TestTotal(t *testing.T) {
	for want, m := range map[int]api.Manifest{
		0: sample(), 3: sample(3), 433: sample(300, 5, 128), 64 * maxBytes: sample(slices.Repeat([]int{maxBytes}, maxShards)...),
		12: {Shards: []api.Shard{{First: 9, Bytes: 5}, {First: 9, Bytes: 7}}}, // it isn't asked whether it may be
	} {
		if got := manifest.Total(m); got != want {
			t.Errorf("Total(%s) is %d, want %d", told(m), got, want)
		}
	}
}

func TestWhereNoNodeIs(t *testing.T) {
	for _, m := range samples() {
		for _, node := range append([]int{m.Nodes, m.Nodes + 1, maxNodes, maxNodes + 1}, far...) {
			i, at, e := manifest.Where(m, node)
			failsWith(t, e, api.ErrRange, noPlace, fmt.Sprintf("Where(.., %d) of %d nodes", node, m.Nodes))
			if i != 0 || at != 0 {
				t.Errorf("with an error: %d, %d", i, at)
			}
		}
	}
}

func TestWhereOfUnevenShards(t *testing.T) {
	m := sample(10, 3, 70, 9)
	m.Nodes = 100
	for i, first := range []int{0, 1, 40, 99} {
		m.Shards[i].First = first
	}
	for node, want := range map[int][2]int{0: {0, 0}, 1: {1, 10}, 2: {1, 10}, 39: {1, 10}, 40: {2, 13}, 98: {2, 13}, 99: {3, 83}} {
		if i, at, e := manifest.Where(m, node); [2]int{i, at} != want || e != nil {
			t.Errorf("Where(.., %d): %d, %d, error %d; want %v", node, i, at, api.Code(e), want)
		}
	}
}

func TestSame(t *testing.T) {
	l := samples()
	for i, a := range l {
		for k, b := range l {
			if manifest.Same(a, changed(b)) != (i == k) {
				t.Errorf("Same of samples %d and %d is %v", i, k, i != k)
			}
		}
	}
	m := sample(300, 5, 128)
	for i, c := range []change{
		func(m *api.Manifest) { m.Version++ }, func(m *api.Manifest) { m.Nodes++ }, func(m *api.Manifest) { m.Edges++ }, func(m *api.Manifest) { m.Blocks++ },
		func(m *api.Manifest) { m.Root = sum("other") }, func(m *api.Manifest) { m.Root = "" }, func(m *api.Manifest) { m.Root += "x" },
		func(m *api.Manifest) { m.Shards = nil }, func(m *api.Manifest) { m.Shards = m.Shards[:2] }, func(m *api.Manifest) { m.Shards = append(m.Shards, api.Shard{}) },
		func(m *api.Manifest) { m.Shards[2].First++ }, func(m *api.Manifest) { m.Shards[0].Bytes++ }, func(m *api.Manifest) { m.Shards[2].Bytes-- },
		func(m *api.Manifest) { m.Shards[0], m.Shards[1] = m.Shards[1], m.Shards[0] },
	} {
		x := changed(m, c)
		if manifest.Same(m, x) || manifest.Same(x, m) || !manifest.Same(x, changed(x)) {
			t.Errorf("change %d isn't told, or what isn't changed is", i)
		}
	}
	a, b := sample(), sample()
	a.Shards, b.Shards = nil, []api.Shard{}
	if !manifest.Same(a, b) || !manifest.Same(b, a) || !manifest.Same(api.Manifest{}, api.Manifest{}) {
		t.Error("no list isn't an empty one")
	}
}

// liesIn tells whether a text is a piece of another one's memory.
func liesIn(got, s string) bool {
	at, begin := uintptr(unsafe.Pointer(unsafe.StringData(got))), uintptr(unsafe.Pointer(unsafe.StringData(s)))
	return at >= begin && at < begin+uintptr(len(s))
}

func TestCopy(t *testing.T) {
	odd := api.Manifest{Version: -1, Nodes: math.MaxInt, Edges: -7, Shards: []api.Shard{{First: -1, Bytes: -2}}, Blocks: -3, Root: "r"}
	for _, m := range append(samples(), odd, api.Manifest{}) { // it isn't asked whether it may be
		was := told(m)
		x := manifest.Copy(m)
		if !equal(x, m) || len(m.Root) > 0 && liesIn(x.Root, m.Root) {
			t.Errorf("Copy(%s): %s", was, told(x))
		}
		for i := range x.Shards {
			x.Shards[i] = api.Shard{First: -9, Bytes: -9}
		}
		_ = append(x.Shards, api.Shard{First: -9})
		if told(m) != was {
			t.Errorf("what is copied changes with the copy: %s, was %s", told(m), was)
		}
	}
}

// graph is nodes and edges; by these what a version should be is made, in another way.
type graph struct {
	nodes int
	edges []api.Edge
}

// rowOf is a row's bytes.
func rowOf(v int, l []int) string {
	s := short(len(l))
	for i, w := range l {
		switch {
		case i > 0:
			s += short(w - l[i-1] - 1)
		case w < v:
			s += short(2*(v-w) - 1)
		default:
			s += short(2 * (w - v))
		}
	}
	return s
}

// shardOf is the bytes of some nodes' rows.
func (g graph) shardOf(first, many int) string {
	index, rows := "", ""
	for i := range many {
		var l []int
		for _, x := range g.edges {
			if x.From == first+i && !slices.Contains(l, x.To) {
				l = append(l, x.To)
			}
		}
		slices.Sort(l)
		if i%8 == 0 {
			index += short(len(rows))
		}
		rows += rowOf(first+i, l)
	}
	return short(first) + short(many) + index + rows
}

// version is what is to be made of it.
func (g graph) version(version, each int) manifest.Version {
	v := manifest.Version{}
	v.Version, v.Nodes = version, g.nodes
	met := map[api.Edge]bool{}
	for _, x := range g.edges {
		met[x] = true
	}
	v.Edges = len(met)
	all := ""
	for first := 0; first < g.nodes; first += min(each, maxNodes) {
		s := g.shardOf(first, min(each, g.nodes-first))
		v.Shards = append(v.Shards, api.Shard{First: first, Bytes: len(s)})
		all += s
	}
	for ; len(all) > 0; all = all[len(v.List[len(v.List)-1]):] {
		v.List = append(v.List, all[:min(64, len(all))])
	}
	v.Blocks, v.Root = len(v.List), rootOf(v.List)
	return v
}

func graphs() []graph {
	ring, dense, twice := graph{nodes: 70}, graph{nodes: 25}, graph{nodes: 9}
	for v := range ring.nodes {
		ring.edges = append(ring.edges, api.Edge{From: v, To: (v + 1) % ring.nodes})
	}
	for v := range dense.nodes * dense.nodes {
		dense.edges = append(dense.edges, api.Edge{From: v % 25, To: 24 - v/25})
	}
	for v := range 60 {
		twice.edges = append(twice.edges, api.Edge{From: 5 * v % 9, To: 7 * v % 4})
	}
	far := graph{nodes: maxNodes, edges: []api.Edge{{From: 4095, To: 0}, {From: 0, To: 4095}, {From: 4095, To: 4095}, {From: 2048, To: 1}}}
	return []graph{{}, {nodes: 1}, {nodes: 1, edges: []api.Edge{{}}}, {nodes: 2, edges: []api.Edge{{From: 1, To: 0}, {From: 0, To: 1}}}, {nodes: 64}, {nodes: 65}, ring, dense, twice, far}
}

// isMade: as the model makes it; it may be, and its shards join to the graph.
func isMade(t *testing.T, g graph, version, each int) {
	t.Helper()
	was := slices.Clone(g.edges)
	v, e := manifest.Make(version, g.nodes, each, g.edges...)
	if v == nil || e != nil {
		t.Errorf("Make(%d, %d, %d, ..): error %d at %d", version, g.nodes, each, api.Code(e), api.Place(e))
		return
	}
	want := g.version(version, each)
	if !equal(v.Manifest, want.Manifest) || !slices.Equal(v.List, want.List) {
		t.Errorf("Make(%d, %d, %d, ..): %s, want %s, or its blocks aren't so", version, g.nodes, each, told(v.Manifest), told(want.Manifest))
	}
	if !slices.Equal(g.edges, was) {
		t.Error("the edges were written into")
	}
	mayBe(t, v.Manifest)
	if !joins(v, g) {
		t.Errorf("Make(%d, %d, %d, ..) doesn't join to the graph", version, g.nodes, each)
	}
	isTreeOf(t, v.Tree(), v.List)
}

// joins tells whether a version's blocks, one behind the other, are shards that join to a graph.
func joins(v *manifest.Version, g graph) bool {
	all := strings.Join(v.List, "")
	var l []string
	for _, x := range v.Shards {
		l, all = append(l, all[:x.Bytes]), all[x.Bytes:]
	}
	c, e := shard.Join(v.Nodes, l...)
	d, f := csr.Build(g.nodes, g.edges)
	return all == "" && e == nil && f == nil && c.Same(d) && c.Edges() == v.Edges
}

func TestMake(t *testing.T) {
	for _, g := range graphs() {
		least := max((g.nodes+maxShards-1)/maxShards, 1)
		for _, each := range []int{least, least + 1, least + 7, 8, 64, max(g.nodes-1, 1), max(g.nodes, 1), g.nodes + 1, 4096, 1 << 32, math.MaxInt - 1, math.MaxInt} {
			if each >= least {
				isMade(t, g, 3, each)
			}
		}
		isMade(t, g, 1, maxNodes)
		isMade(t, g, maxVersion, maxNodes)
	}
}

func TestMakeOfNoNodes(t *testing.T) {
	v, e := manifest.Make(1, 0, 8)
	if e != nil || !equal(v.Manifest, api.Manifest{Version: 1, Root: sum("\x02")}) || len(v.List) != 0 {
		t.Errorf("error %d, or another version", api.Code(e))
	}
	isMade(t, graph{}, 1, 8)
}

// TestMakeOfTheGreatest: with as many nodes and edges as may be.
func TestMakeOfTheGreatest(t *testing.T) {
	g := graph{nodes: maxNodes}
	for i := range maxEdges {
		v := i / 5
		g.edges = append(g.edges, api.Edge{From: v, To: (v + 2000 + 400*(i%5)) % maxNodes})
	}
	for _, each := range []int{64, 65, 1000, maxNodes} {
		v, e := manifest.Make(5, g.nodes, each, g.edges...)
		if e != nil {
			t.Errorf("error %d at %d", api.Code(e), api.Place(e))
			continue
		}
		if v.Edges != maxEdges || v.Nodes != maxNodes || len(v.Shards) != (maxNodes-1)/each+1 || v.Root != rootOf(v.List) || !joins(v, g) {
			t.Errorf("%d edges of %d nodes in %d shards", v.Edges, v.Nodes, len(v.Shards))
		}
		mayBe(t, v.Manifest)
	}
}

// TestMakeOfLikeGraphs: in whatever order, and however often edges are handed in.
func TestMakeOfLikeGraphs(t *testing.T) {
	g := graphs()[7]
	a, _ := manifest.Make(2, g.nodes, 4, g.edges...)
	back := slices.Concat(g.edges, g.edges)
	slices.Reverse(back)
	b, e := manifest.Make(2, g.nodes, 4, back...)
	if e != nil || !equal(a.Manifest, b.Manifest) || !slices.Equal(a.List, b.List) {
		t.Errorf("%s, %s, error %d, or unlike blocks", told(a.Manifest), told(b.Manifest), api.Code(e))
	}
	c, e := manifest.Make(2, g.nodes, 4, back[:300]...)
	if e != nil || c.Root == a.Root {
		t.Errorf("unlike graphs have one root, or error %d", api.Code(e))
	}
}

// TestMakeRefuses: the errors in their order.
func TestMakeRefuses(t *testing.T) {
	bad := []api.Edge{{From: 0, To: 1}, {From: 0, To: 100}, {From: -1, To: 0}}
	many := make([]api.Edge, maxEdges+1)
	for i, x := range []struct {
		version, nodes, each int
		l                    []api.Edge
		want                 api.Errno
		at                   int
	}{
		{0, -1, 0, bad, api.ErrVersion, noPlace}, {-1, 3, 1, nil, api.ErrVersion, noPlace}, {maxVersion + 1, 100, 1, many, api.ErrVersion, noPlace},
		{math.MaxInt, 3, 1, nil, api.ErrVersion, noPlace}, {math.MinInt, 3, 1, nil, api.ErrVersion, noPlace}, {1 << 56, 3, 1, nil, api.ErrVersion, noPlace},
		{1, -1, 0, bad, api.ErrGraph, -1}, {1, maxNodes + 1, 1, nil, api.ErrGraph, -1}, {1, math.MaxInt, 1, many, api.ErrGraph, -1},
		{1, 100, 0, many, api.ErrGraph, maxEdges}, {1, 100, 1, bad, api.ErrGraph, 1}, {1, 101, 0, bad, api.ErrGraph, 2}, {1, 0, 1, bad, api.ErrGraph, 0},
		{1, 3, 0, nil, api.ErrArg, noPlace}, {1, 0, 0, nil, api.ErrArg, noPlace}, {1, 100, -1, nil, api.ErrArg, noPlace}, {1, 3, math.MinInt, nil, api.ErrArg, noPlace},
		{1, 65, 1, nil, api.ErrLong, noPlace}, {1, maxNodes, 63, nil, api.ErrLong, noPlace}, {maxVersion, 129, 2, many[1:], api.ErrLong, noPlace},
	} {
		v, e := manifest.Make(x.version, x.nodes, x.each, x.l...)
		who := fmt.Sprintf("case %d", i)
		if x.want == api.ErrGraph {
			if f, ok := e.(api.Fault); !ok || f.At != x.at || f.Err != api.ErrGraph {
				t.Errorf("%s: error %d at %d, want %d at %d", who, api.Code(e), api.Place(e), x.want, x.at)
			}
		} else {
			failsWith(t, e, x.want, x.at, who)
		}
		if v != nil {
			t.Errorf("%s: with an error %s", who, told(v.Manifest))
		}
	}
}

// tree is what a version's tree tells.
type tree interface {
	Root() string
	Len() int
	Proof(i int) ([]string, error)
}

func isTreeOf(t *testing.T, x tree, l []string) {
	t.Helper()
	if x.Root() != rootOf(l) || x.Len() != len(l) {
		t.Errorf("a tree of %d blocks with root %x, want %d and %x", x.Len(), x.Root(), len(l), rootOf(l))
	}
	for i := range l {
		if _, e := x.Proof(i); e != nil {
			t.Errorf("proof %d: error %d", i, api.Code(e))
		}
	}
}

func TestTree(t *testing.T) {
	var none *manifest.Version
	if none.Tree() != nil {
		t.Error("nil has a tree")
	}
	for _, l := range [][]string{nil, {}, {"a"}, {"a", "", "b"}} { // also of a version that Make didn't make
		v := &manifest.Version{List: l}
		isTreeOf(t, v.Tree(), l)
	}
	v, _ := manifest.Make(1, 70, 9, graphs()[6].edges...)
	was := slices.Clone(v.List)
	x := v.Tree()
	v.List[0] = "other"
	isTreeOf(t, x, was)
	isTreeOf(t, v.Tree(), v.List)
}

func TestAnswersShareNothing(t *testing.T) {
	g := graphs()[6]
	a, _ := manifest.Make(1, g.nodes, 9, g.edges...)
	b, _ := manifest.Make(1, g.nodes, 9, g.edges...)
	want := g.version(1, 9)
	for i := range a.Shards {
		a.Shards[i] = api.Shard{}
	}
	for i := range a.List {
		a.List[i] = "spoilt"
	}
	if !equal(b.Manifest, want.Manifest) || !slices.Equal(b.List, want.List) {
		t.Error("two versions share memory")
	}
	s := bytesOf(want.Manifest)
	m, _ := manifest.Get(s)
	x, _ := manifest.Get(s)
	if liesIn(m.Root, s) {
		t.Error("the root lies in the bytes")
	}
	m.Shards[0] = api.Shard{}
	if !equal(x, want.Manifest) {
		t.Error("two answers of Get share memory")
	}
	p, _ := manifest.Put(want.Manifest)
	if liesIn(want.Root, p) || liesIn(p, want.Root) {
		t.Error("the bytes share memory with the root")
	}
}

// TestNothingIsWrittenInto: by any that take a manifest.
func TestNothingIsWrittenInto(t *testing.T) {
	for _, m := range samples() {
		was := told(m)
		manifest.Check(m)
		manifest.Put(m)
		manifest.Total(m)
		manifest.Where(m, 1)
		manifest.Same(m, m)
		manifest.Copy(m)
		if told(m) != was {
			t.Errorf("%s, was %s", told(m), was)
		}
	}
}
