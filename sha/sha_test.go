package sha_test

import (
	"crypto/sha256"
	"encoding/hex"
	"math"
	"math/big"
	"slices"
	"strings"
	"testing"

	"lading/sha"
)

// All tests here are of promise P2.1.

// text is n bytes, no two pieces of which are alike, with high and low ones.
func text(n int) string {
	b := make([]byte, n)
	x := uint32(n)
	for i := range b {
		x = x*1664525 + 1013904223
		b[i] = byte(x >> 24)
	}
	return string(b)
}

// digest is what another SHA-256 makes of a text.
func digest(s string) string {
	d := sha256.Sum256([]byte(s))
	return string(d[:])
}

// edges are sizes next to where a piece ends, and to where its length must go into one more.
func edges() []int {
	var l []int
	for piece := 0; piece <= 256; piece += 64 {
		for _, n := range []int{-1, 0, 1, 54, 55, 56, 57} {
			l = append(l, max(piece+n, 0))
		}
	}
	return l
}

func isOf(t *testing.T, s *sha.State, want string) {
	t.Helper()
	if got := s.Sum(); got != digest(want) {
		t.Errorf("%d bytes have %s, want %x", len(want), sha.Hex(got), digest(want))
	}
	if got := s.Len(); got != len(want) {
		t.Errorf("%d bytes were written, told are %d", len(want), got)
	}
}

func TestKnownDigests(t *testing.T) {
	for _, x := range []struct{ text, want string }{
		{"", "e3b0c44298fc1c149afbf4c8996fb92427ae41e4649b934ca495991b7852b855"},
		{"abc", "ba7816bf8f01cfea414140de5dae2223b00361a396177a9cb410ff61f20015ad"},
		{"abcdbcdecdefdefgefghfghighijhijkijkljklmklmnlmnomnopnopq", "248d6a61d20638b8e5c026930c3e6039a33ce45964ff2167f6ecedd419db06c1"},
		{strings.Repeat("a", 1000000), "cdc76e5c9914fb9281a1c7e284d73e67f1809a48a497200e046d39ccc7112cd0"},
	} {
		got := sha.Sum(x.text)
		if len(got) != 32 || sha.Hex(got) != x.want {
			t.Errorf("%.20q has %s, want %s", x.text, sha.Hex(got), x.want)
		}
	}
}

func TestSumOfEverySize(t *testing.T) {
	for n := range 400 {
		for _, s := range []string{text(n), strings.Repeat("\x00", n), strings.Repeat("\xff", n), strings.Repeat("\x80", n)} {
			if got := sha.Sum(s); got != digest(s) {
				t.Errorf("%d bytes (%.8q ..) have %s, want %x", n, s, sha.Hex(got), digest(s))
			}
		}
	}
}

func TestSumOfNothing(t *testing.T) {
	want := digest("")
	for _, l := range [][]string{nil, {}, {""}, {"", "", ""}} {
		if got := sha.Sum(l...); got != want {
			t.Errorf("%q has %s", l, sha.Hex(got))
		}
		s := sha.New()
		s.Write(l...)
		isOf(t, s, "")
	}
}

func TestSumOfTextsInTwo(t *testing.T) {
	for _, n := range edges() {
		s := text(n)
		for cut := range n + 1 {
			if got := sha.Sum(s[:cut], s[cut:]); got != digest(s) {
				t.Fatalf("%d bytes, cut at %d, have %s, want %x", n, cut, sha.Hex(got), digest(s))
			}
			x := sha.New()
			x.Write(s[:cut])
			isOf(t, x, s[:cut])
			x.Write(s[cut:])
			isOf(t, x, s)
		}
	}
}

func TestSumOfTextsInThree(t *testing.T) {
	s := text(130)
	for one := range len(s) + 1 {
		for two := one; two <= len(s); two++ {
			if got := sha.Sum(s[:one], s[one:two], "", s[two:]); got != digest(s) {
				t.Fatalf("cut at %d and %d: %s, want %x", one, two, sha.Hex(got), digest(s))
			}
		}
	}
}

func TestStateInPiecesOfOneSize(t *testing.T) {
	s := text(300)
	for size := 1; size <= 130; size++ {
		x := sha.New()
		var l []string
		for at := 0; at < len(s); at += size {
			piece := s[at:min(at+size, len(s))]
			l = append(l, piece)
			x.Write(piece)
			isOf(t, x, s[:at+len(piece)])
		}
		if sha.Sum(l...) != digest(s) {
			t.Errorf("in pieces of %d: %s", size, sha.Hex(sha.Sum(l...)))
		}
		all := sha.New()
		all.Write(l...)
		isOf(t, all, s)
	}
}

func TestStateIsOfNothingAtFirst(t *testing.T) {
	isOf(t, sha.New(), "")
	var made sha.State
	isOf(t, &made, "")
	made.Write(text(70))
	isOf(t, &made, text(70))
}

func TestSumMayBeAskedAgain(t *testing.T) {
	for _, n := range edges() {
		s := text(n)
		x := sha.New()
		x.Write(s)
		for range 3 {
			isOf(t, x, s)
		}
		x.Write("more")
		isOf(t, x, s+"more")
	}
}

func TestStatesAreApart(t *testing.T) {
	s := text(100)
	x, y := sha.New(), sha.New()
	x.Write(s)
	isOf(t, y, "")
	y.Write("y")
	isOf(t, x, s)
	isOf(t, y, "y")
	z := *x
	z.Write(s)
	isOf(t, x, s)
	isOf(t, &z, s+s)
}

func TestArgumentsStayAsTheyAre(t *testing.T) {
	l := []string{"one", "", text(200)}
	was := slices.Clone(l)
	x := sha.New()
	x.Write(l...)
	sha.Sum(l...)
	if !slices.Equal(l, was) {
		t.Errorf("%q were written into", was)
	}
	l[0] = "two"
	isOf(t, x, strings.Join(was, ""))
}

// The number of bits needs more than four of its eight bytes from 2^29 bytes on.
func TestSumOfAGreatText(t *testing.T) {
	if testing.Short() {
		t.Skip("half a GiB is written")
	}
	some := text(1 << 20)
	x, other := sha.New(), sha256.New()
	for range 513 {
		x.Write(some)
		other.Write([]byte(some))
	}
	if got, want := x.Sum(), string(other.Sum(nil)); got != want || x.Len() != 513<<20 {
		t.Errorf("%d bytes have %s, want %x", x.Len(), sha.Hex(got), want)
	}
}

func TestNilState(t *testing.T) {
	var x *sha.State
	for range 2 {
		if x.Sum() != "" || x.Len() != 0 {
			t.Errorf("nil: %q, %d", x.Sum(), x.Len())
		}
		x.Write()
		x.Write("")
		x.Write("abc", text(100))
	}
}

func primes(n int) []int64 {
	var l []int64
	for p := int64(2); len(l) < n; p++ {
		if big.NewInt(p).ProbablyPrime(0) {
			l = append(l, p)
		}
	}
	return l
}

// broken is the first 32 bits of the broken part of a prime's cube root.
func broken(prime int64) int {
	cube := new(big.Int).Lsh(big.NewInt(prime), 3*32)
	root := 0 // of the prime, times 2^32: below 2^35, since the prime is below 512
	for bit := 34; bit >= 0; bit-- {
		x := big.NewInt(int64(root | 1<<bit))
		if new(big.Int).Exp(x, big.NewInt(3), nil).Cmp(cube) <= 0 {
			root |= 1 << bit
		}
	}
	return root % (1 << 32)
}

func TestK(t *testing.T) {
	for i, p := range primes(64) {
		if got, want := sha.K(i), broken(p); got != want {
			t.Errorf("K(%d) is %x, want %x", i, got, want)
		}
	}
	if sha.K(0) != 0x428a2f98 || sha.K(63) != 0xc67178f2 {
		t.Errorf("K is %x .. %x", sha.K(0), sha.K(63))
	}
}

func TestKOfOthers(t *testing.T) {
	for _, i := range []int{-1, -2, -64, 64, 65, 127, 128, 1 << 32, 1<<32 + 1, math.MaxInt, math.MinInt} {
		if got := sha.K(i); got != 0 {
			t.Errorf("K(%d) is %x, want 0", i, got)
		}
	}
}

func TestHex(t *testing.T) {
	var all []byte
	for i := range 256 {
		all = append(all, byte(i))
		if got, want := sha.Hex(string(all[i:])), hex.EncodeToString(all[i:]); got != want {
			t.Errorf("byte %d is %q, want %q", i, got, want)
		}
	}
	for _, s := range []string{"", "\x00", "\x00\xff", "abc", "\u00e4\u20ac", string(all), text(1000)} {
		if got, want := sha.Hex(s), hex.EncodeToString([]byte(s)); got != want {
			t.Errorf("%.20q is %q, want %q", s, got, want)
		}
	}
}
