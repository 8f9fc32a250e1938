package merkle_test

import (
	"crypto/sha256"
	"encoding/hex"
	"fmt"
	"math"
	"slices"
	"strings"
	"testing"
	"unsafe"

	"lading/api"
	"lading/merkle"
)

const (
	most    = 1 << 20 // blocks, of which a proof is followed
	noPlace = -1
)

// sum is what another SHA-256 makes of texts.
func sum(l ...string) string {
	d := sha256.Sum256([]byte(strings.Join(l, "")))
	return string(d[:])
}

// first is how many blocks of n the first part has.
func first(n int) int {
	k := 1
	for 2*k < n {
		k *= 2
	}
	return k
}

// rootOf is blocks' root, by the chapter's words.
func rootOf(l []string) string {
	switch len(l) {
	case 0:
		return sum("\x02")
	case 1:
		return sum("\x00", l[0])
	}
	k := first(len(l))
	return sum("\x01", rootOf(l[:k]), rootOf(l[k:]))
}

// proofOf is a block's proof, by the chapter's words.
func proofOf(l []string, i int) []string {
	if len(l) == 1 {
		return nil
	}
	k := first(len(l))
	if i < k {
		return append(proofOf(l[:k], i), rootOf(l[k:]))
	}
	return append(proofOf(l[k:], i-k), rootOf(l[:k]))
}

// stepsOf is how many digests a proof has, by the chapter's words.
func stepsOf(i, n int) int {
	if i < 0 || i >= n {
		return 0
	}
	steps := 0
	for n > 1 {
		if k := first(n); i < k {
			n = k
		} else {
			i, n = i-k, n-k
		}
		steps++
	}
	return steps
}

// blocks are n texts, no two of which are alike, of all sizes that a block has.
func blocks(n int) []string {
	l := make([]string, n)
	for i := range l {
		l[i] = (fmt.Sprint(i, ":") + strings.Repeat("\xff\x00\x80", 22))[:64-i%40]
	}
	return l
}

// digests are n texts of 32 bytes, no two of which are alike.
func digests(n int) []string {
	l := make([]string, n)
	for i := range l {
		l[i] = sum("digest", fmt.Sprint(i))
	}
	return l
}

// failsWith: an error of that number, in a fault at that place (noPlace: in none).
func failsWith(t *testing.T, e error, want api.Errno, at int, who string) {
	t.Helper()
	x, placed := e.(api.Fault)
	if placed {
		e = x.Err
	}
	n, plain := e.(api.Errno)
	if placed != (at != noPlace) || placed && x.At != at || !plain || n != want {
		t.Errorf("%s: error %d (placed: %v, at %d), want %d at %d", who, api.Code(e), placed, x.At, want, at)
	}
}

func proves(t *testing.T, root string, i, n int, s string, proof []string) {
	t.Helper()
	was := slices.Clone(proof)
	if e := merkle.Check(root, i, n, s, proof...); e != nil {
		t.Errorf("Check of block %d of %d: error %d at %d", i, n, api.Code(e), api.Place(e))
	}
	if up, e := merkle.Up(i, n, sum("\x00", s), proof...); up != root || e != nil {
		t.Errorf("Up of block %d of %d: %x, error %d; want %x", i, n, up, api.Code(e), root)
	}
	if !slices.Equal(proof, was) {
		t.Errorf("the proof of block %d of %d was written into", i, n)
	}
}

// leadsElsewhere: a proof of the right form, that isn't of the block.
func leadsElsewhere(t *testing.T, root string, i, n int, s string, proof []string) {
	t.Helper()
	failsWith(t, merkle.Check(root, i, n, s, proof...), api.ErrProof, i, fmt.Sprintf("Check of block %d of %d", i, n))
}

// isRefused: Up and Check tell one error, at no place.
func isRefused(t *testing.T, want api.Errno, root string, i, n int, leaf, s string, proof []string) {
	t.Helper()
	who := fmt.Sprintf("block %d of %d with %d digests", i, n, len(proof))
	up, e := merkle.Up(i, n, leaf, proof...)
	failsWith(t, e, want, noPlace, "Up of "+who)
	if up != "" {
		t.Errorf("with an error Up of %s: %x", who, up)
	}
	if leaf == sum("\x00", s) {
		failsWith(t, merkle.Check(root, i, n, s, proof...), want, noPlace, "Check of "+who)
	}
}

// The tests from here on are of promise P9.1.

func TestLeaf(t *testing.T) {
	l := append(blocks(100), "", "\x00", "\x01", strings.Repeat("\x00", 64), strings.Repeat("\xff", 63), strings.Repeat("a", 1000))
	for _, s := range l {
		if got, want := merkle.Leaf(s), sum("\x00", s); got != want {
			t.Errorf("Leaf(%.30q) is %x, want %x", s, got, want)
		}
	}
}

func TestNode(t *testing.T) {
	l := append(digests(5), strings.Repeat("\x00", 32), "", "a", strings.Repeat("b", 33))
	for _, a := range l {
		for _, b := range l {
			if got, want := merkle.Node(a, b), sum("\x01", a, b); got != want {
				t.Errorf("Node(%x, %x) is %x, want %x", a, b, got, want)
			}
		}
	}
}

// TestKnownRoots: a certificate log's of texts that its makers gave out.
func TestKnownRoots(t *testing.T) {
	var l []string
	for _, s := range []string{"", "00", "10", "2021", "3031", "40414243", "5051525354555657", "606162636465666768696a6b6c6d6e6f"} {
		b, _ := hex.DecodeString(s)
		l = append(l, string(b))
	}
	for n, want := range map[int]string{
		1: "6e340b9cffb37a989ca544e6bb780a2c78901d3fb33738768511a30617afa01d",
		2: "fac54203e7cc696cf0dfcb42c92a1d9dbaf70ad9e621f4bd8d98662f00e3c125",
		3: "aeb6bcfe274b70a14fb067a5e5578264db0fa9b51af5e0ba159158f329e06e77",
		4: "d37ee418976dd95753c1c73862b9398fa2a2cf9b4ff0fdfe8b30cd95209614b7",
		5: "4e3bbb1f7b478dcfe71fb631631519a3bca12c9aefca1612bfce4c13a86264d4",
		6: "76e67dadbcdf1e10e1b74ddc608abd2f98dfb16fbce75277b5232a127f2087ef",
		7: "ddb89be403809e325750d3d263cd78929c2942b7942a34b77e122c9594a74c8c",
		8: "5dc9da79a70659a9ad559cb701ded9a2ab9d823aad2f4960cfe370eff4604328",
	} {
		if got := hex.EncodeToString([]byte(merkle.Root(l[:n]...))); got != want {
			t.Errorf("of %d: %s, want %s", n, got, want)
		}
	}
}

func TestRootsOfBlocks(t *testing.T) {
	all := blocks(300)
	for n := range all {
		l := all[:n]
		want := rootOf(l)
		was := slices.Clone(l)
		x := merkle.New(l...)
		for range 2 {
			if merkle.Root(l...) != want || x.Root() != want || x.Len() != n {
				t.Errorf("of %d: %x, %x, %d; want %x", n, merkle.Root(l...), x.Root(), x.Len(), want)
			}
		}
		if !slices.Equal(l, was) {
			t.Errorf("%d blocks were written into", n)
		}
	}
}

func TestRootsOfLikeBlocks(t *testing.T) {
	for n := range 70 {
		for _, s := range []string{"", "\x00", strings.Repeat("\xff", 64), strings.Repeat("long", 100)} {
			l := slices.Repeat([]string{s}, n)
			if want := rootOf(l); merkle.Root(l...) != want || merkle.New(l...).Root() != want {
				t.Errorf("of %d times %.20q: %x, want %x", n, s, merkle.Root(l...), want)
			}
		}
	}
}

func TestNoBlocks(t *testing.T) {
	want := sum("\x02")
	for _, l := range [][]string{nil, {}} {
		x := merkle.New(l...)
		if merkle.Root(l...) != want || x == nil || x.Root() != want || x.Len() != 0 {
			t.Errorf("of none: %x, %x", merkle.Root(l...), x.Root())
		}
		proofFails(t, x, 0, api.ErrRange)
	}
	var made merkle.Tree
	if made.Root() != want || made.Len() != 0 {
		t.Errorf("of none: %x, %d", made.Root(), made.Len())
	}
	proofFails(t, &made, 0, api.ErrRange)
	proofFails(t, &made, -1, api.ErrRange)
}

func proofFails(t *testing.T, x *merkle.Tree, i int, want api.Errno) {
	t.Helper()
	p, e := x.Proof(i)
	failsWith(t, e, want, noPlace, fmt.Sprintf("Proof(%d)", i))
	if len(p) > 0 {
		t.Errorf("with an error Proof(%d) has %d digests", i, len(p))
	}
}

// TestEachBlockIsProved: of each number of blocks each block, by just its proof.
func TestEachBlockIsProved(t *testing.T) {
	all := blocks(70)
	for n := range len(all) + 1 {
		l := all[:n]
		x := merkle.New(l...)
		for i, s := range l {
			want := proofOf(l, i)
			for range 2 {
				if p, e := x.Proof(i); !slices.Equal(p, want) || e != nil {
					t.Errorf("Proof(%d) of %d: %x, error %d; want %x", i, n, p, api.Code(e), want)
				}
			}
			proves(t, rootOf(l), i, n, s, want)
			if len(want) != merkle.Steps(i, n) {
				t.Errorf("Steps(%d, %d) is %d, want %d", i, n, merkle.Steps(i, n), len(want))
			}
		}
		for _, i := range []int{-1, -2, -n - 1, n, n + 1, 2*n + 1, 1 << 32, -1 << 32, math.MaxInt, math.MinInt} {
			proofFails(t, x, i, api.ErrRange)
		}
	}
}

func TestEachBlockOfAFullVersionIsProved(t *testing.T) {
	for _, n := range []int{2047, 2048, 2049} {
		l := blocks(n)
		x := merkle.New(l...)
		root := rootOf(l)
		for i, s := range l {
			p, e := x.Proof(i)
			if e != nil || len(p) != stepsOf(i, n) {
				t.Errorf("Proof(%d) of %d: %d digests, error %d", i, n, len(p), api.Code(e))
			}
			proves(t, root, i, n, s, p)
		}
	}
}

func TestSteps(t *testing.T) {
	if merkle.Steps(2, 3) != 1 || merkle.Steps(0, 3) != 2 {
		t.Errorf("of 3: %d, %d", merkle.Steps(2, 3), merkle.Steps(0, 3))
	}
	for n := -3; n < 300; n++ {
		for i := -5; i < n+5; i++ {
			if got, want := merkle.Steps(i, n), stepsOf(i, n); got != want {
				t.Errorf("Steps(%d, %d) is %d, want %d", i, n, got, want)
			}
		}
	}
}

func TestStepsOfMany(t *testing.T) {
	for _, n := range []int{2047, 2048, 2049, 1 << 16, 1<<16 + 1, most - 2, most - 1, most} {
		for _, i := range []int{0, 1, 2, n / 3, n / 2, n/2 + 1, n - 3, n - 2, n - 1, n, -1} {
			if got, want := merkle.Steps(i, n), stepsOf(i, n); got != want {
				t.Errorf("Steps(%d, %d) is %d, want %d", i, n, got, want)
			}
		}
	}
	if got := merkle.Steps(most-1, most); got != 20 {
		t.Errorf("%d, want 20", got)
	}
	if got := merkle.Steps(1<<19, 1<<19+1); got != 1 {
		t.Errorf("%d, want 1", got)
	}
}

// noBlocks are numbers of blocks that aren't there, or of more blocks than a proof is followed of.
var noBlocks = []struct{ i, n int }{
	{0, 0}, {-1, 0}, {1, 0}, {0, -1}, {-1, -1}, {-2, -1}, {-1, 1}, {1, 1}, {-1, 5}, {5, 5}, {6, 5}, {4, 3},
	{most, most}, {most + 1, most}, {-1, most}, {0, most + 1}, {1, most + 1}, {most - 1, most + 1}, {most, most + 1}, {most + 1, most + 1},
	{1 << 32, 5}, {1<<32 + 1, 5}, {0, 1 << 32}, {0, 1<<32 + 1}, {1 << 32, 1<<32 + 1}, {0, 1<<32 - 1},
	{math.MaxInt, 5}, {math.MinInt, 5}, {math.MinInt, math.MinInt}, {0, math.MinInt}, {math.MinInt, math.MaxInt},
	{0, math.MaxInt}, {math.MaxInt - 1, math.MaxInt}, {math.MaxInt, math.MaxInt}, {1 << 62, 1<<62 + 1}, {0, 1<<62 + 1},
}

func TestBlocksThatAreNotThere(t *testing.T) {
	d := digests(70)
	for _, x := range noBlocks {
		if got := merkle.Steps(x.i, x.n); got != 0 {
			t.Errorf("Steps(%d, %d) is %d, want 0", x.i, x.n, got)
		}
		for _, many := range []int{0, 1, 2, 3, 20, 21, 32, 33, 62, 63, 64} {
			isRefused(t, api.ErrRange, d[0], x.i, x.n, sum("\x00", "s"), "s", d[:many])
		}
		isRefused(t, api.ErrRange, "", x.i, x.n, "short", "", []string{""}) // asked ahead of what is no digest
		isRefused(t, api.ErrRange, sum("\x00"), x.i, x.n, sum("\x00"), "", nil)
	}
}

// TestUpOfMany: as far as proofs are followed, whatever stands beside the block.
func TestUpOfMany(t *testing.T) {
	d := digests(20)
	root := func(i, n int, s string) string {
		sides := []bool{} // from the root downwards: is the block in the first part?
		for n > 1 {
			k := first(n)
			sides = append(sides, i < k)
			if i < k {
				n = k
			} else {
				i, n = i-k, n-k
			}
		}
		slices.Reverse(sides)
		up := sum("\x00", s)
		for step, one := range sides {
			if one {
				up = sum("\x01", up, d[step])
			} else {
				up = sum("\x01", d[step], up)
			}
		}
		return up
	}
	for _, n := range []int{1, 2, 3, 1000, 2048, 1<<16 + 7, most - 1, most} {
		for _, i := range []int{0, n / 3, n / 2, n - 1} {
			p := d[:stepsOf(i, n)]
			proves(t, root(i, n, "some"), i, n, "some", p)
			leadsElsewhere(t, root(i, n, "some"), i, n, "other", p)
			if len(p) < 20 {
				isRefused(t, api.ErrProof, root(i, n, "some"), i, n, sum("\x00", "some"), "some", d[:len(p)+1])
			}
		}
	}
}

// TestProofsOfAnotherLength: none but that of Steps.
func TestProofsOfAnotherLength(t *testing.T) {
	d := digests(40)
	leaf := sum("\x00", "s")
	for n := 1; n < 40; n++ {
		for i := range n {
			for many := range len(d) {
				if many != stepsOf(i, n) {
					isRefused(t, api.ErrProof, d[0], i, n, leaf, "s", d[:many])
				}
			}
		}
	}
	x := blocks(7)
	isRefused(t, api.ErrProof, rootOf(x), 2, 7, sum("\x00", x[2]), x[2], append(proofOf(x, 2), rootOf(x)))
	isRefused(t, api.ErrProof, rootOf(x), 2, 7, sum("\x00", x[2]), x[2], append(proofOf(x, 2), ""))
	isRefused(t, api.ErrProof, rootOf(x), 2, 7, sum("\x00", x[2]), x[2], proofOf(x, 2)[:2])
	isRefused(t, api.ErrProof, rootOf(x), 2, 7, sum("\x00", x[2]), x[2], proofOf(x, 2)[1:])
	isRefused(t, api.ErrProof, rootOf(x), 2, 7, sum("\x00", x[2]), x[2], nil)
}

// TestWhatIsNoDigest: each of a proof, and the leaf, of each other size.
func TestWhatIsNoDigest(t *testing.T) {
	s := "s"
	leaf := sum("\x00", s)
	for _, n := range []int{1, 2, 3, 7, 8, 9} {
		for i := range n {
			p := digests(stepsOf(i, n))
			for size := range 100 {
				if size == 32 {
					continue
				}
				no := strings.Repeat("x", size)
				isRefused(t, api.ErrProof, leaf, i, n, no, s, p)
				for at := range p {
					spoilt := slices.Clone(p)
					spoilt[at] = no
					isRefused(t, api.ErrProof, leaf, i, n, leaf, s, spoilt)
				}
			}
		}
	}
	// One more byte here, one less there, and all bytes stand as before.
	l := blocks(4)
	p, leaf := proofOf(l, 1), sum("\x00", l[1])
	isRefused(t, api.ErrProof, rootOf(l), 1, 4, leaf[1:], l[1], []string{p[0] + leaf[:1], p[1]})
	isRefused(t, api.ErrProof, rootOf(l), 1, 4, p[0]+leaf, l[1], []string{"", p[1]})
	isRefused(t, api.ErrProof, rootOf(l), 1, 4, "", l[1], []string{p[0] + leaf, p[1]})
}

func TestUpTakesAnyDigests(t *testing.T) {
	zero := strings.Repeat("\x00", 32)
	for _, leaf := range append(digests(3), zero) {
		if up, e := merkle.Up(0, 1, leaf); up != leaf || e != nil {
			t.Errorf("%x, error %d; want %x", up, api.Code(e), leaf)
		}
		for _, d := range append(digests(3), zero, leaf) {
			if up, e := merkle.Up(0, 2, leaf, d); up != sum("\x01", leaf, d) || e != nil {
				t.Errorf("%x, error %d", up, api.Code(e))
			}
			if up, e := merkle.Up(1, 2, leaf, d); up != sum("\x01", d, leaf) || e != nil {
				t.Errorf("%x, error %d", up, api.Code(e))
			}
		}
	}
}

// TestOtherRoots: of any size.
func TestOtherRoots(t *testing.T) {
	for _, n := range []int{1, 2, 3, 6, 8} {
		l := blocks(n)
		root := rootOf(l)
		for i, s := range l {
			for _, other := range []string{"", "\x00", root[:31], root[1:], root + "\x00", "\x00" + root, root + root, sum("\x02"), sum(root), rootOf(l[1:]), rootOf(append(l[:n:n], ""))} {
				leadsElsewhere(t, other, i, n, s, proofOf(l, i))
			}
		}
	}
}

func TestNilTree(t *testing.T) {
	var x *merkle.Tree
	for range 2 {
		if x.Root() != "" || x.Len() != 0 {
			t.Errorf("nil: %x, %d", x.Root(), x.Len())
		}
		for _, i := range []int{0, 1, -1, 1 << 20, math.MaxInt, math.MinInt} {
			proofFails(t, x, i, api.ErrArg)
		}
	}
}

func TestTreesAreApart(t *testing.T) {
	l := blocks(5)
	was := slices.Clone(l)
	x := merkle.New(l...)
	y := merkle.New(l[:3]...)
	z := *x
	l[2] = "other"
	w := merkle.New(l...)
	if x.Root() != rootOf(was) || y.Root() != rootOf(was[:3]) || z.Root() != rootOf(was) || w.Root() != rootOf(l) {
		t.Error("a tree changes with its blocks, or with another one")
	}
	for i := range was {
		if p, _ := x.Proof(i); !slices.Equal(p, proofOf(was, i)) {
			t.Errorf("the proof of block %d changes with the blocks", i)
		}
	}
}

// liesIn tells whether a text is a piece of another one's memory.
func liesIn(got, s string) bool {
	at, begin := uintptr(unsafe.Pointer(unsafe.StringData(got))), uintptr(unsafe.Pointer(unsafe.StringData(s)))
	return at >= begin && at < begin+uintptr(len(s))
}

func TestAnswersShareNothing(t *testing.T) {
	l := blocks(6)
	x := merkle.New(l...)
	for i := range l {
		one, _ := x.Proof(i)
		two, _ := x.Proof(i)
		for at := range one {
			if liesIn(one[at], two[at]) {
				t.Errorf("digest %d of proof %d is one that is kept", at, i)
			}
			one[at] = "spoilt"
		}
		if p, _ := x.Proof(i); !slices.Equal(two, proofOf(l, i)) || !slices.Equal(p, two) {
			t.Errorf("two answers of Proof(%d) share memory", i)
		}
	}
	if liesIn(x.Root(), x.Root()) {
		t.Error("the root is one that is kept")
	}
	leaf := sum("leaf")
	if up, _ := merkle.Up(0, 1, leaf); up != leaf || liesIn(up, leaf) {
		t.Error("what is answered lies in the leaf")
	}
}

// TestManyBlocks: a tree may have more of them than those of which a proof is followed.
func TestManyBlocks(t *testing.T) {
	if testing.Short() {
		t.Skip("more than two million digests")
	}
	s := "one of many"
	half := sum("\x00", s)
	for range 20 {
		half = sum("\x01", half, half)
	}
	x := merkle.New(slices.Repeat([]string{s}, most+1)...)
	if want := sum("\x01", half, sum("\x00", s)); x.Root() != want || x.Len() != most+1 {
		t.Errorf("%x, %d; want %x", x.Root(), x.Len(), want)
	}
	p, e := x.Proof(most)
	if !slices.Equal(p, []string{half}) || e != nil {
		t.Errorf("%x, error %d; want %x", p, api.Code(e), half)
	}
	isRefused(t, api.ErrRange, x.Root(), most, most+1, sum("\x00", s), s, p)
	p, e = x.Proof(0)
	if len(p) != 21 || p[20] != sum("\x00", s) || e != nil {
		t.Errorf("%d digests, error %d", len(p), api.Code(e))
	}
	proves(t, half, 0, most, s, p[:20])
	proofFails(t, x, most+1, api.ErrRange)
}

// The tests from here on are of promise P9.2.

// flipped are a text's likenesses, each with one bit that is another.
func flipped(s string) []string {
	var l []string
	for at := range len(s) {
		for bit := range 8 {
			b := []byte(s)
			b[at] ^= 1 << bit
			l = append(l, string(b))
		}
	}
	return l
}

// TestSpoiltBlocksAreNotProved: by no bit, no byte more or less, nor in another place.
func TestSpoiltBlocksAreNotProved(t *testing.T) {
	for n := 1; n < 12; n++ {
		l := blocks(n)
		root := rootOf(l)
		for i, s := range l {
			p := proofOf(l, i)
			others := append(flipped(s), "", s+"\x00", s+"\x80", "\x00"+s, s+s, s[1:], s[:len(s)-1], sum("\x00", s), root)
			for k, other := range l {
				if k != i {
					others = append(others, other)
				}
			}
			for _, other := range others {
				leadsElsewhere(t, root, i, n, other, p)
			}
		}
	}
}

// TestSpoiltProofsProveNothing: by no bit, and in no other order.
func TestSpoiltProofsProveNothing(t *testing.T) {
	for _, n := range []int{2, 3, 5, 8, 11} {
		l := blocks(n)
		root := rootOf(l)
		for i, s := range l {
			p := proofOf(l, i)
			for at, d := range p {
				for _, other := range append(flipped(d), sum("\x00", s), root, sum("\x02")) {
					spoilt := slices.Clone(p)
					spoilt[at] = other
					leadsElsewhere(t, root, i, n, s, spoilt)
				}
				for with := range at {
					spoilt := slices.Clone(p)
					spoilt[at], spoilt[with] = spoilt[with], spoilt[at]
					leadsElsewhere(t, root, i, n, s, spoilt)
				}
			}
		}
	}
}

// TestSpoiltRootsProveNothing: by no bit.
func TestSpoiltRootsProveNothing(t *testing.T) {
	for _, n := range []int{1, 2, 3, 7} {
		l := blocks(n)
		for i, s := range l {
			for _, other := range flipped(rootOf(l)) {
				leadsElsewhere(t, other, i, n, s, proofOf(l, i))
			}
		}
	}
}

// TestOtherPlacesAreNotProved: a block with its proof is the one of its number alone.
func TestOtherPlacesAreNotProved(t *testing.T) {
	for n := 2; n < 40; n++ {
		l := blocks(n)
		root := rootOf(l)
		for i, s := range l {
			p := proofOf(l, i)
			for other := range n {
				switch {
				case other == i:
				case stepsOf(other, n) == len(p):
					leadsElsewhere(t, root, other, n, s, p)
				default:
					isRefused(t, api.ErrProof, root, other, n, sum("\x00", s), s, p)
				}
			}
		}
	}
}

// parts are the roots of all parts into which blocks are split.
func parts(l []string) []string {
	if len(l) < 2 {
		return []string{rootOf(l)}
	}
	k := first(len(l))
	return slices.Concat(parts(l[:k]), parts(l[k:]), []string{rootOf(l)})
}

// each hands over all lists of that many out of some texts.
func each(pool []string, many int, take func([]string)) {
	if many == 0 {
		take(nil)
		return
	}
	each(pool, many-1, func(l []string) {
		for _, s := range pool {
			take(append(slices.Clone(l), s))
		}
	})
}

// TestNothingElseIsProved: of all proofs out of what stands in the tree just the block's own, and of that block alone.
func TestNothingElseIsProved(t *testing.T) {
	for n := 1; n <= 6; n++ {
		l := blocks(n)
		root := rootOf(l)
		pool := append(parts(l), sum("\x02"))
		texts := slices.Concat(l, pool, []string{"", "\x00" + l[0]})
		for i := range n {
			own := proofOf(l, i)
			each(pool, len(own), func(p []string) {
				for _, s := range texts {
					e := merkle.Check(root, i, n, s, p...)
					if is := s == l[i] && slices.Equal(p, own); is != (e == nil) {
						t.Errorf("block %d of %d: %.30q by %x: error %d", i, n, s, p, api.Code(e))
					}
				}
			})
		}
	}
}

// TestNodesAreNoBlocks: what stands in a node, or in no blocks' root, isn't proved as a block, though fewer blocks are told.
func TestNodesAreNoBlocks(t *testing.T) {
	l := blocks(4)
	one, other := rootOf(l[:2]), rootOf(l[2:])
	root := rootOf(l)
	for _, s := range []string{one + other, "\x01" + one + other, "\x00" + one + other, root, "\x01", ""} {
		leadsElsewhere(t, root, 0, 1, s, nil)
	}
	for _, s := range []string{sum("\x00", l[0]) + sum("\x00", l[1]), "\x01" + sum("\x00", l[0]) + sum("\x00", l[1]), one} {
		leadsElsewhere(t, root, 0, 2, s, []string{other})
	}
	for _, s := range []string{"", "\x02", "\x00", sum("\x02")} {
		leadsElsewhere(t, rootOf(nil), 0, 1, s, nil)
	}
	if merkle.Leaf(one+other) == merkle.Node(one, other) || merkle.Leaf("\x01"+one+other) == merkle.Node(one, other) {
		t.Error("a block's leaf is a node of two digests")
	}
}

// TestLikeBlocks: each is proved in its own place, by its own proof, and one that was another is not.
func TestLikeBlocks(t *testing.T) {
	l := []string{"a", "a", "b", "a", "b", "b", "a"}
	root := rootOf(l)
	for i, s := range l {
		proves(t, root, i, len(l), s, proofOf(l, i))
		leadsElsewhere(t, root, i, len(l), map[string]string{"a": "b", "b": "a"}[s], proofOf(l, i))
	}
}
