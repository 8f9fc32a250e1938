package block_test

import (
	"errors"
	"math"
	"slices"
	"strings"
	"testing"
	"unsafe"

	"lading/api"
	"lading/block"
)

// All tests here are of promise P8.1.

const (
	full    = 64
	noPlace = -1
)

// text is n bytes, no two pieces of which are alike, with high and low ones.
func text(n int) string {
	b := make([]byte, n)
	x := uint32(n)
	for i := range b {
		x = x*1664525 + 1013904223
		b[i] = byte(x >> 24)
	}
	return string(b)
}

// blocksOf are a text's blocks, laid byte by byte.
func blocksOf(s string) []string {
	var l []string
	for i := range len(s) {
		if len(l) == 0 || len(l[len(l)-1]) == full {
			l = append(l, "")
		}
		l[len(l)-1] += s[i : i+1]
	}
	return l
}

// sizes are those next to where a block is full, and some others.
func sizes() []int {
	l := []int{0, 1, 2, 30}
	for n := full; n <= 4*full; n += full {
		l = append(l, n-1, n, n+1, n+30)
	}
	return l
}

// failsWith: an error of that number, in a fault at that place (noPlace: in none).
func failsWith(t *testing.T, e error, want api.Errno, at int, who string) {
	t.Helper()
	x, placed := e.(api.Fault)
	if placed {
		e = x.Err
	}
	n, plain := e.(api.Errno)
	if placed != (at != noPlace) || placed && x.At != at || !plain || n != want {
		t.Errorf("%s: error %d (placed: %v, at %d), want %d at %d", who, api.Code(e), placed, x.At, want, at)
	}
}

// watched is a source that notes what it is asked for.
func watched(src block.Source, asked *[]int) block.Source {
	return func(i int) (string, error) {
		*asked = append(*asked, i)
		return src(i)
	}
}

func cutIs(t *testing.T, want []string, l ...string) {
	t.Helper()
	was := slices.Clone(l)
	if got := block.Cut(l...); !slices.Equal(got, want) {
		t.Errorf("Cut(%.60q): %.60q, want %.60q", l, got, want)
	}
	if !slices.Equal(l, was) {
		t.Errorf("%.60q was written into", was)
	}
}

func TestCutOfOneText(t *testing.T) {
	for n := range 5*full + 2 {
		for _, s := range []string{text(n), strings.Repeat("\x00", n), strings.Repeat("\xff", n)} {
			cutIs(t, blocksOf(s), s)
		}
	}
	s := text(2048 * full)
	cutIs(t, blocksOf(s), s)
	cutIs(t, blocksOf(s+"\x80"), s+"\x80") // more than a version has
}

func TestCutOfNothing(t *testing.T) {
	for _, l := range [][]string{nil, {}, {""}, {"", "", ""}} {
		cutIs(t, nil, l...)
	}
}

func TestCutOfTextsInPieces(t *testing.T) {
	s := text(3*full + 7)
	want := blocksOf(s)
	for size := 1; size <= len(s); size++ {
		var l, gaps []string
		for at := 0; at < len(s); at += size {
			piece := s[at:min(at+size, len(s))]
			l = append(l, piece)
			gaps = append(gaps, "", piece, "")
		}
		cutIs(t, want, l...)
		cutIs(t, want, gaps...)
	}
	for one := range len(s) + 1 {
		cutIs(t, want, s[:one], s[one:])
		cutIs(t, want, s[:one], "", s[one:], "")
	}
}

func TestCountOfBytes(t *testing.T) {
	for n := range 6 * full {
		if got, want := block.Count(n), len(blocksOf(text(n))); got != want {
			t.Errorf("Count(%d) is %d, want %d", n, got, want)
		}
	}
	for n, want := range map[int]int{
		-1: 0, -63: 0, -64: 0, -65: 0, -1 << 32: 0, math.MinInt: 0, math.MinInt + 1: 0,
		2048 * 64: 2048, 2048*64 + 1: 2049, 1 << 32: 1 << 26, 1<<32 + 1: 1<<26 + 1,
		math.MaxInt: 1 << 57, math.MaxInt - 62: 1 << 57, math.MaxInt - 63: 1<<57 - 1, math.MaxInt - 64: 1<<57 - 1,
	} {
		if got := block.Count(n); got != want {
			t.Errorf("Count(%d) is %d, want %d", n, got, want)
		}
	}
}

func TestSizeOfBlocks(t *testing.T) {
	for n := range 6 * full {
		l := blocksOf(text(n))
		for i := -3; i < len(l)+3; i++ {
			want := 0
			if i >= 0 && i < len(l) {
				want = len(l[i])
			}
			if got := block.Size(n, i); got != want {
				t.Errorf("Size(%d, %d) is %d, want %d", n, i, got, want)
			}
		}
	}
}

func TestSizeOfFarBlocks(t *testing.T) {
	for _, x := range []struct{ total, i, want int }{
		{150, 1 << 58, 0}, {150, 1<<58 + 1, 0}, {150, 1<<58 + 2, 0}, {150, -1 << 58, 0}, // 64 times these wraps round
		{150, 1 << 32, 0}, {150, 1<<32 + 1, 0}, {150, math.MaxInt, 0}, {150, math.MinInt, 0}, {150, math.MinInt + 1, 0},
		{-1, 0, 0}, {-1, -1, 0}, {-64, -1, 0}, {-65, -2, 0}, {-65, 0, 0}, {math.MinInt, 0, 0}, {math.MinInt, -1 << 57, 0},
		{math.MinInt, math.MinInt, 0}, {math.MinInt, math.MaxInt, 0},
		{math.MaxInt, 0, 64}, {math.MaxInt, 1<<57 - 2, 64}, {math.MaxInt, 1<<57 - 1, 63}, {math.MaxInt, 1 << 57, 0},
		{math.MaxInt - 63, 1<<57 - 2, 64}, {math.MaxInt - 63, 1<<57 - 1, 0}, {math.MaxInt, math.MaxInt, 0}, {math.MaxInt, -1, 0},
	} {
		if got := block.Size(x.total, x.i); got != x.want {
			t.Errorf("Size(%d, %d) is %d, want %d", x.total, x.i, got, x.want)
		}
	}
}

func TestSourceOfBlocks(t *testing.T) {
	for _, l := range [][]string{nil, {""}, {"one"}, {"one", "", "two", text(full), text(300), ""}, blocksOf(text(500))} { // of any size
		src := block.Of(l...)
		if src == nil {
			t.Fatalf("Of(%.60q) is nil", l)
		}
		for range 2 {
			for i, want := range l {
				if s, e := src(i); s != want || e != nil {
					t.Errorf("block %d of %.60q: %.60q, %v", i, l, s, e)
				}
			}
			for _, i := range []int{-1, -len(l), len(l), len(l) + 1, 1 << 32, -1 << 32, math.MaxInt, math.MinInt} {
				if i >= 0 && i < len(l) {
					continue
				}
				s, e := src(i)
				failsWith(t, e, api.ErrNone, noPlace, "a source")
				if s != "" {
					t.Errorf("with an error block %d of %.60q: %.60q", i, l, s)
				}
			}
		}
	}
}

func TestSourceKeepsWhatItHas(t *testing.T) {
	l := []string{"one", "two", "three"}
	was := slices.Clone(l)
	src := block.Of(l[:2]...)
	if !slices.Equal(l, was) {
		t.Errorf("%q was written into", was)
	}
	l[0], l[1] = "other", ""
	for i := range 2 {
		if s, e := src(i); s != was[i] || e != nil {
			t.Errorf("block %d: %q, %v", i, s, e)
		}
	}
	if s, e := src(2); s != "" || api.Code(e) != int(api.ErrNone) { // though there is more behind the piece of l
		t.Errorf("block 2: %q, %v", s, e)
	}
}

func TestSourcesAreApart(t *testing.T) {
	a, b := block.Of("a", "aa"), block.Of("b")
	for range 2 {
		if s, e := a(0); s != "a" || e != nil {
			t.Errorf("%q, %v", s, e)
		}
		if s, e := b(0); s != "b" || e != nil {
			t.Errorf("%q, %v", s, e)
		}
	}
}

// TestNeeds: of every piece the blocks in which its first and its last byte are.
func TestNeeds(t *testing.T) {
	for _, total := range sizes() {
		var in []int // the block of each byte
		for i, s := range blocksOf(text(total)) {
			in = append(in, slices.Repeat([]int{i}, len(s))...)
		}
		for from := -2; from <= total+2; from++ {
			for many := -2; many <= total+2; many++ {
				if from < 0 || many < 0 || from+many > total {
					needsFails(t, total, from, many)
					continue
				}
				first, last := 0, -1
				if many > 0 {
					first, last = in[from], in[from+many-1]
				}
				needsAre(t, total, from, many, first, last)
			}
		}
	}
}

func needsAre(t *testing.T, total, from, many, first, last int) {
	t.Helper()
	a, b, e := block.Needs(total, from, many)
	if a != first || b != last || e != nil {
		t.Errorf("Needs(%d, %d, %d): %d, %d, %v; want %d, %d", total, from, many, a, b, e, first, last)
	}
}

// noPieces are pieces that aren't there, found by sums that wrap round, or by totals below 0.
var noPieces = []struct{ total, from, many int }{
	{150, 150, 1}, {150, 151, 0}, {150, 0, 151}, {150, 140, 11}, {0, 0, 1}, {0, 1, 0}, {150, -1, 1}, {150, 1, -1}, {150, -1, 151}, {150, 151, -1},
	{150, -10, 0}, {150, 0, -10}, {150, -1, -1}, {150, math.MinInt, 10}, {150, 10, math.MinInt}, {150, math.MinInt, math.MinInt},
	{150, math.MaxInt, 1}, {150, 1, math.MaxInt}, {150, math.MaxInt, math.MaxInt}, {150, math.MaxInt, 0}, {150, 0, math.MaxInt},
	{150, math.MaxInt, math.MinInt}, {150, 1 << 32, 0}, {150, 1 << 32, 1}, {150, 0, 1<<32 + 1},
	{math.MaxInt, math.MaxInt, 1}, {math.MaxInt, 1, math.MaxInt}, {math.MaxInt, math.MaxInt, math.MaxInt}, {math.MaxInt, 1 << 62, 1 << 62},
	{-1, 0, 0}, {-1, 0, 1}, {-1, -1, 0}, {-150, 0, 0}, {-150, 0, 10}, {math.MinInt, 0, 0}, {math.MinInt, 0, 1}, {math.MinInt, 1, 0},
	{math.MinInt, 64, 64}, {math.MinInt, math.MaxInt, 1}, {math.MinInt, 1, math.MaxInt}, {math.MinInt, math.MinInt, 0}, {math.MinInt, math.MinInt, math.MinInt},
}

func needsFails(t *testing.T, total, from, many int) {
	t.Helper()
	a, b, e := block.Needs(total, from, many)
	failsWith(t, e, api.ErrRange, noPlace, "Needs")
	if a != 0 || b != 0 {
		t.Errorf("with an error Needs(%d, %d, %d): %d, %d", total, from, many, a, b)
	}
}

func TestNeedsOfFarPieces(t *testing.T) {
	for _, x := range noPieces {
		needsFails(t, x.total, x.from, x.many)
	}
	const most, last = math.MaxInt, 1<<57 - 1
	needsAre(t, most, 0, most, 0, last)
	needsAre(t, most, 0, 1, 0, 0)
	needsAre(t, most, 63, most-63, 0, last)
	needsAre(t, most, 64, most-64, 1, last)
	needsAre(t, most, most-1, 1, last, last)
	needsAre(t, most, most-63, 63, last, last)
	needsAre(t, most, most-64, 64, last-1, last)
	needsAre(t, most, most-64, 1, last-1, last-1)
	needsAre(t, most, most, 0, 0, -1)
	needsAre(t, most, 0, 0, 0, -1)
	needsAre(t, most, 1<<32, 1, 1<<26, 1<<26)
	needsAre(t, 0, 0, 0, 0, -1)
}

// numbers are those from first to last.
func numbers(first, last int) []int {
	var l []int
	for i := first; i <= last; i++ {
		l = append(l, i)
	}
	return l
}

func readIs(t *testing.T, src block.Source, total, from, many int, want string, blocks []int) {
	t.Helper()
	var asked []int
	s, e := block.Read(watched(src, &asked), total, from, many)
	if s != want || e != nil {
		t.Errorf("Read(%d, %d, %d): %.60q, %v; want %.60q", total, from, many, s, e, want)
	}
	if !slices.Equal(asked, blocks) {
		t.Errorf("Read(%d, %d, %d) asks for %v, want %v", total, from, many, asked, blocks)
	}
}

func readFails(t *testing.T, src block.Source, total, from, many int, want api.Errno, at int, blocks []int) {
	t.Helper()
	var asked []int
	s, e := block.Read(watched(src, &asked), total, from, many)
	failsWith(t, e, want, at, "Read")
	if s != "" {
		t.Errorf("with an error Read(%d, %d, %d): %.60q", total, from, many, s)
	}
	if !slices.Equal(asked, blocks) {
		t.Errorf("Read(%d, %d, %d) asks for %v, want %v", total, from, many, asked, blocks)
	}
}

// TestWhatIsCutIsRead: every piece of it, out of just the blocks in which it lies.
func TestWhatIsCutIsRead(t *testing.T) {
	for _, total := range sizes() {
		s := text(total)
		src := block.Of(block.Cut(s)...)
		for from := range total + 1 {
			readIs(t, src, total, from, 0, "", nil)
			for many := 1; many <= total-from; many++ {
				readIs(t, src, total, from, many, s[from:from+many], numbers(from/full, (from+many-1)/full))
			}
		}
	}
	s := text(2048*full - 5)
	l := block.Cut(s[:1000], s[1000:])
	readIs(t, block.Of(l...), len(s), 0, len(s), s, numbers(0, 2047))
	readIs(t, block.Of(l...), len(s), len(s)-60, 60, s[len(s)-60:], []int{2046, 2047})
}

func TestOtherBlocksMayBeAnything(t *testing.T) {
	s := text(5*full + 20)
	l := blocksOf(s)
	for first := range l {
		for last := first; last < len(l); last++ {
			spoilt := make([]string, last+1) // and those behind lack
			copy(spoilt[first:], l[first:])
			from := first*full + min(first, 5)
			many := min(last*full+9, len(s)) - from
			if many > 0 {
				readIs(t, block.Of(spoilt...), len(s), from, many, s[from:from+many], numbers(first, last))
			}
		}
	}
	more := append(slices.Clone(l), text(full), "more")
	readIs(t, block.Of(more...), len(s), 0, len(s), s, numbers(0, 5))
	other := slices.Clone(l)
	other[2] = text(full) // of the size that is said: what stands in it isn't asked
	readIs(t, block.Of(other...), len(s), full, 3*full, l[1]+other[2]+l[3], numbers(1, 3))
}

func TestReadWithoutASource(t *testing.T) {
	var none block.Source
	for _, x := range append(slices.Clone(noPieces), struct{ total, from, many int }{150, 0, 150}, struct{ total, from, many int }{150, 0, 0}) {
		s, e := block.Read(none, x.total, x.from, x.many)
		failsWith(t, e, api.ErrArg, noPlace, "Read")
		if s != "" {
			t.Errorf("with an error: %q", s)
		}
	}
	if s, e := block.Read(nil, 0, 0, 0); s != "" || api.Code(e) != int(api.ErrArg) {
		t.Errorf("%q, %v", s, e)
	}
}

func TestPiecesThatAreNotThere(t *testing.T) {
	src := block.Of(blocksOf(text(150))...)
	for _, x := range noPieces {
		readFails(t, src, x.total, x.from, x.many, api.ErrRange, noPlace, nil)
	}
	for from := -1; from <= 151; from++ {
		readFails(t, src, 150, from, 151-max(from, 0), api.ErrRange, noPlace, nil)
		readFails(t, src, 150, from, -1, api.ErrRange, noPlace, nil)
	}
}

// TestBlocksThatLack: each as the first one that does, of each piece in which it is.
func TestBlocksThatLack(t *testing.T) {
	s := text(4*full + 20)
	src := block.Of(blocksOf(s)...)
	for _, why := range []api.Errno{api.ErrNone, api.ErrProof, api.ErrArg, api.ErrRange, api.ErrDown} {
		for lack := range 5 {
			spoilt := func(i int) (string, error) {
				told, e := src(i)
				if i == lack {
					return told, why // what is told beside an error isn't taken
				}
				if i > lack {
					return "", api.ErrBusy // not the first one
				}
				return told, e
			}
			for first := range lack + 1 {
				readFails(t, spoilt, len(s), first*full+7, len(s)-first*full-7, why, lack, numbers(first, lack))
				readFails(t, spoilt, len(s), first*full, lack*full+1-first*full, why, lack, numbers(first, lack))
			}
			readIs(t, spoilt, len(s), 0, lack*full, s[:lack*full], numbers(0, lack-1))
		}
	}
	for n := range 5 {
		readFails(t, block.Of(blocksOf(s)[:n]...), len(s), 0, len(s), api.ErrNone, n, numbers(0, n))
	}
}

// TestBlocksOfAnotherSize: shorter and longer ones, whichever part of them is needed.
func TestBlocksOfAnotherSize(t *testing.T) {
	s := text(3*full + 20)
	l := blocksOf(s)
	for wrong := range l {
		for n := range 3 * full {
			if n == len(l[wrong]) {
				continue
			}
			x := slices.Clone(l)
			x[wrong] = text(n)
			readFails(t, block.Of(x...), len(s), 0, len(s), api.ErrForm, wrong, numbers(0, wrong))
			readFails(t, block.Of(x...), len(s), wrong*full, 1, api.ErrForm, wrong, []int{wrong})
			readFails(t, block.Of(x...), len(s), wrong*full+19, 1, api.ErrForm, wrong, []int{wrong})
			for more := wrong + 1; more < len(x); more++ {
				x[more] = "" // the first one is told
			}
			readFails(t, block.Of(x...), len(s), 0, len(s), api.ErrForm, wrong, numbers(0, wrong))
			readFails(t, block.Of(x[:wrong+1]...), len(s), 0, len(s), api.ErrForm, wrong, numbers(0, wrong))
			lack := func(i int) (string, error) {
				if i == wrong-1 {
					return x[i], api.ErrNone // told ahead of the wrong size behind it
				}
				return x[i], nil
			}
			if wrong > 0 {
				readFails(t, lack, len(s), 0, len(s), api.ErrNone, wrong-1, numbers(0, wrong-1))
			}
		}
	}
	readFails(t, block.Of(l...), len(s)-1, 3*full, 1, api.ErrForm, 3, []int{3}) // of bytes of another total
	readFails(t, block.Of(l...), len(s)+1, 3*full, 1, api.ErrForm, 3, []int{3})
	readIs(t, block.Of(l...), len(s)+1, 2*full, full, l[2], []int{2})
	readFails(t, block.Of(l...), 3*full, 2*full, full+1, api.ErrRange, noPlace, nil)
}

type ownError struct{ why string }

func (e *ownError) Error() string { return e.why }

// TestErrorsOfTheSourceStayWhatTheyAre: whatever a source tells is in the fault, whole.
func TestErrorsOfTheSourceStayWhatTheyAre(t *testing.T) {
	own := &ownError{"own"}
	for _, e := range []error{own, api.ErrProof, api.Fault{At: 99, Err: api.ErrSum}, errors.Join(own, api.ErrNone), api.Fault{At: 0, Err: own}} {
		src := func(i int) (string, error) {
			if i == 1 {
				return "", e
			}
			return text(full), nil
		}
		s, got := block.Read(src, 3*full, 0, 3*full)
		f, ok := got.(api.Fault)
		if !ok || f.At != 1 || f.Err == nil || !errors.Is(got, e) || api.Code(got) != api.Code(e) || api.Place(got) != 1 || s != "" {
			t.Errorf("of %v: %q, %v", e, s, got)
		}
		if x, ok := e.(api.Fault); ok && !errors.Is(f.Err, x) {
			t.Errorf("of %v: in the fault is %v", e, f.Err)
		}
	}
}

// TestSourcesThatPanic: no block is told, and Read doesn't panic.
func TestSourcesThatPanic(t *testing.T) {
	s := text(3 * full)
	for at := range 3 {
		for _, why := range []any{"text", api.ErrProof, 7, nil} {
			src := func(i int) (string, error) {
				if i == at {
					panic(why)
				}
				return s[i*full : i*full+full], nil
			}
			readFails(t, src, len(s), 0, len(s), api.ErrNone, at, numbers(0, at))
		}
	}
}

// TestGreatTotals: nothing wraps round, and no more is laid out than is told.
func TestGreatTotals(t *testing.T) {
	const most, last = math.MaxInt, 1<<57 - 1
	s := text(2*full - 1)
	src := func(i int) (string, error) {
		switch i {
		case last - 1:
			return s[:full], nil
		case last:
			return s[full:], nil
		}
		return "", api.ErrNone
	}
	readIs(t, src, most, most-1, 1, s[len(s)-1:], []int{last})
	readIs(t, src, most, most-63, 63, s[full:], []int{last})
	readIs(t, src, most, most-64, 64, s[full-1:], []int{last - 1, last})
	readIs(t, src, most, most-len(s), len(s), s, []int{last - 1, last})
	readIs(t, src, most, most, 0, "", nil)
	readFails(t, src, most, 0, most, api.ErrNone, 0, []int{0})
	readFails(t, src, most, 1, most-1, api.ErrNone, 0, []int{0})
	readFails(t, src, most-1, most-2, 1, api.ErrForm, last, []int{last})
	readFails(t, block.Of(text(full), ""), most, 0, most, api.ErrForm, 1, []int{0, 1})
}

// liesIn tells whether a text is a piece of another one's memory.
func liesIn(got, s string) bool {
	at, begin := uintptr(unsafe.Pointer(unsafe.StringData(got))), uintptr(unsafe.Pointer(unsafe.StringData(s)))
	return at >= begin && at < begin+uintptr(len(s))
}

func TestAnswersShareNothing(t *testing.T) {
	s := text(150)
	l := block.Cut(s)
	for _, got := range append(block.Cut(s[:64]), l...) {
		if liesIn(got, s) {
			t.Errorf("%q lies in what was cut", got)
		}
	}
	src := block.Of(l...)
	for i := range l {
		one, _ := src(i)
		two, _ := src(i)
		if liesIn(one, l[i]) || liesIn(one, two) {
			t.Errorf("block %d lies in what was handed in, or is kept", i)
		}
	}
	whole := func(i int) (string, error) { return l[i], nil }
	if got, _ := block.Read(whole, 150, 0, 64); liesIn(got, l[0]) {
		t.Error("what is read lies in a block")
	}
	again := block.Cut(s)
	again[0] = ""
	if l[0] != s[:64] || block.Cut(s)[0] != s[:64] {
		t.Error("two answers of Cut share memory")
	}
}
