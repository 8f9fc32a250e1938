package frame_test

import (
	"encoding/binary"
	"errors"
	"hash/crc32"
	"math"
	"slices"
	"strings"
	"testing"
	"unsafe"

	"lading/api"
	"lading/frame"
)

// All tests here are of promise P3.1.

const (
	head     = 6
	greatest = 60000
)

var castagnoli = crc32.MakeTable(crc32.Castagnoli)

// sizes are texts' lengths next to where a byte of the length turns over, and to the greatest.
var sizes = []int{0, 1, 2, 3, 5, 6, 7, 64, 255, 256, 257, 300, 32767, 32768, greatest - 1, greatest}

// wrongPlaces are none of n bytes.
func wrongPlaces(n int) []int {
	return []int{-1, -2, -head, n + 1, n + head, math.MaxInt, math.MaxInt - head + 1, math.MinInt, math.MinInt + head}
}

// text is n bytes, high and low ones.
func text(n int) string {
	b := make([]byte, n)
	x := uint32(n)
	for i := range b {
		x = x*1664525 + 1013904223
		b[i] = byte(x >> 24)
	}
	return string(b)
}

// sumOf is what another CRC-32C makes of a text.
func sumOf(s string) uint32 { return crc32.Checksum([]byte(s), castagnoli) }

// frameOf is the bytes that the chapter asks for, whatever the length that is told in them.
func frameOf(told int, s string) string {
	behind := string(binary.LittleEndian.AppendUint16(nil, uint16(told))) + s
	return string(binary.LittleEndian.AppendUint32(nil, sumOf(behind))) + behind
}

func whole(s string) string { return frameOf(len(s), s) }

// refusal is the error that the chapter asks for of a frame at a place, asked in its order.
func refusal(s string, at int) api.Errno {
	if at < 0 || at > len(s) {
		return api.ErrArg
	}
	b := []byte(s[at:])
	if len(b) < head {
		return api.ErrShort
	}
	n := int(binary.LittleEndian.Uint16(b[4:]))
	switch {
	case n > greatest:
		return api.ErrLong
	case len(b) < head+n:
		return api.ErrShort
	case sumOf(string(b[4:head+n])) != binary.LittleEndian.Uint32(b):
		return api.ErrSum
	}
	return api.OK
}

func isFault(t *testing.T, e error, want api.Errno, at int) {
	t.Helper()
	if e == nil {
		t.Errorf("no error, want %d at %d", want, at)
		return
	}
	f, ok := e.(api.Fault)
	if !ok || f.At != at || !errors.Is(f.Err, want) {
		t.Errorf("error %d at %d, want %d at %d", api.Code(e), api.Place(e), want, at)
	}
}

func nextIs(t *testing.T, s string, at int, want string, behind int) {
	t.Helper()
	if got, next, e := frame.Next(s, at); got != want || next != behind || e != nil {
		t.Errorf("Next of %d bytes at %d: %d bytes, %d, %v; want %d bytes, %d", len(s), at, len(got), next, e, len(want), behind)
	}
}

func nextFails(t *testing.T, s string, at int, want api.Errno) {
	t.Helper()
	got, next, e := frame.Next(s, at)
	isFault(t, e, want, at)
	if got != "" || next != at {
		t.Errorf("with an error Next answers %.20q, %d, want nothing, %d", got, next, at)
	}
}

func openFails(t *testing.T, s string, want api.Errno, at int) {
	t.Helper()
	got, e := frame.Open(s)
	isFault(t, e, want, at)
	if got != "" {
		t.Errorf("with an error Open answers %.20q", got)
	}
}

func allAre(t *testing.T, s string, want []string, behind int) {
	t.Helper()
	if l, at := frame.All(s); !slices.Equal(l, want) || at != behind {
		t.Errorf("All of %d bytes: %d texts, %d; want %d texts, %d", len(s), len(l), at, len(want), behind)
	}
}

func TestKnownSums(t *testing.T) {
	rising := ""
	for i := range 32 {
		rising += string([]byte{byte(i)})
	}
	for _, x := range []struct {
		text string
		want int
	}{
		{"", 0},
		{"a", 0xC1D04330},
		{"123456789", 0xE3069283},
		{strings.Repeat("\x00", 32), 0x8A9136AA},
		{strings.Repeat("\xff", 32), 0x62A8AB43},
		{rising, 0x46DD794E},
	} {
		if got := frame.Sum(x.text); got != x.want {
			t.Errorf("%q has %x, want %x", x.text, got, x.want)
		}
	}
}

func TestSumOfEveryByteAndSize(t *testing.T) {
	for i := range 256 {
		for _, s := range []string{string([]byte{byte(i)}), text(i), strings.Repeat("\x00", i), strings.Repeat("\xff", i)} {
			if got := frame.Sum(s); got != int(sumOf(s)) {
				t.Errorf("%q has %x, want %x", s, got, sumOf(s))
			}
		}
	}
	for _, n := range append(sizes, 1<<16, 1<<20+1) {
		if got := frame.Sum(text(n)); got != int(sumOf(text(n))) {
			t.Errorf("%d bytes have %x, want %x", n, got, sumOf(text(n)))
		}
	}
}

func TestSumOfTextsThatAreCut(t *testing.T) {
	s := text(40)
	want := int(sumOf(s))
	isWant := func(l ...string) {
		t.Helper()
		kept := slices.Clone(l)
		if got := frame.Sum(l...); got != want {
			t.Errorf("%q have %x, want %x", l, got, want)
		}
		if !slices.Equal(l, kept) {
			t.Error("the list was written into")
		}
	}
	for i := range len(s) + 1 {
		isWant(s[:i], s[i:])
		isWant("", s[:i], "", "", s[i:], "")
		for j := i; j <= len(s); j++ {
			isWant(s[:i], s[i:j], s[j:])
		}
	}
	var bytes []string
	for i := range len(s) {
		bytes = append(bytes, s[i:i+1])
	}
	isWant(bytes...)
	if frame.Sum() != 0 || frame.Sum([]string{}...) != 0 || frame.Sum("", "") != 0 {
		t.Error("nothing has a sum")
	}
}

func TestFramesAreSealedAndOpened(t *testing.T) {
	for _, n := range sizes {
		for _, s := range []string{text(n), strings.Repeat("\x00", n), strings.Repeat("\xff", n)} {
			x, e := frame.Seal(s)
			if x != whole(s) || e != nil {
				t.Errorf("Seal of %d bytes: %.20q .., %v; want %.20q ..", n, x, e, whole(s))
			}
			if got, e := frame.Open(x); got != s || e != nil {
				t.Errorf("Open of %d bytes: %d bytes, %v", n, len(got), e)
			}
			for _, a := range []string{"", "z", "\x00\x00\x00\x00\x00\x00", x} {
				for _, b := range []string{"", "z", "\xff\xff\xff\xff\xff\xff\xff", x} {
					nextIs(t, a+x+b, len(a), s, len(a)+len(x))
				}
			}
		}
	}
	for s, want := range map[string]string{"": "\xd2\x77\x61\xf1\x00\x00", "123": "\x09\x4a\x5e\x7d\x03\x00123"} {
		if x, e := frame.Seal(s); x != want || e != nil {
			t.Errorf("Seal(%q): %q, %v; want %q", s, x, e, want)
		}
	}
}

func TestSealRefusesWhatIsTooLong(t *testing.T) {
	for _, n := range []int{greatest + 1, 1<<16 - 1, 1 << 16, 1<<16 + 1, 2 << 16, 1 << 20} {
		x, e := frame.Seal(text(n))
		if got, ok := e.(api.Errno); !ok || got != api.ErrLong || x != "" {
			t.Errorf("Seal of %d bytes: %d bytes, %v", n, len(x), e)
		}
	}
}

func TestPlacesThatAreNone(t *testing.T) {
	for _, s := range []string{"", "a", whole(""), whole("ab"), whole("ab") + whole("c"), frameOf(greatest+1, "")} {
		for _, at := range wrongPlaces(len(s)) {
			nextFails(t, s, at, api.ErrArg)
		}
		nextFails(t, s, len(s), api.ErrShort) // the end is a place, at which nothing stands
	}
}

func TestFramesThatAreCut(t *testing.T) {
	for _, n := range []int{0, 1, 2, 7, 64, 300} {
		x := whole(text(n))
		for cut := range len(x) {
			for _, a := range []string{"", "z", whole("ahead")} {
				nextFails(t, a+x[:cut], len(a), api.ErrShort)
			}
			openFails(t, x[:cut], api.ErrShort, 0)
			allAre(t, x[:cut], nil, 0)
			allAre(t, x+whole("")+x[:cut], []string{text(n), ""}, len(x)+head)
		}
	}
	x := whole(text(greatest))
	for _, cut := range []int{head, greatest, greatest + head - 1} {
		nextFails(t, "z"+x[:cut], 1, api.ErrShort)
		openFails(t, x[:cut], api.ErrShort, 0)
	}
}

// TestOrderOfErrors: each of these has all the faults that are asked for behind its own.
func TestOrderOfErrors(t *testing.T) {
	many := strings.Repeat("x", 1<<16)
	for _, x := range []struct {
		s    string
		want api.Errno
	}{
		{"", api.ErrShort},
		{"\xff\xff\xff\xff\xff", api.ErrShort},
		{"\x00\x00\x00\x00\x61\xea", api.ErrLong}, // 60001, of which none is there
		{"\x00\x00\x00\x00\xff\xff" + many[:9], api.ErrLong},
		{"\x00\x00\x00\x00\x61\xea" + many, api.ErrLong}, // and of which all are
		{frameOf(greatest+1, many[:greatest+1]), api.ErrLong},
		{frameOf(1<<16-1, many[:1<<16-1]), api.ErrLong},
		{"\x00\x00\x00\x00\x60\xea", api.ErrShort}, // 60000
		{"\x00\x00\x00\x00\x60\xea" + many[:greatest-1], api.ErrShort},
		{"\x00\x00\x00\x00\x60\xea" + many[:greatest], api.ErrSum},
		{"\x00\x00\x00\x00\x01\x00", api.ErrShort},
		{"\x00\x00\x00\x00\x00\x00", api.ErrSum},
		{"\x00\x00\x00\x00\x02\x00ab", api.ErrSum},
		{"\x00\x00\x00\x00\x02\x00abc", api.ErrSum}, // ahead of the bytes that are left
	} {
		nextFails(t, x.s, 0, x.want)
		nextFails(t, "123"+x.s, 3, x.want)
		openFails(t, x.s, x.want, 0)
		allAre(t, whole("a")+x.s, []string{"a"}, head+1)
	}
}

func TestOpenRefusesWhatIsLeft(t *testing.T) {
	for _, n := range []int{0, 1, 300, greatest} {
		x := whole(text(n))
		for _, left := range []string{"\x00", "z", whole(""), x} {
			openFails(t, x+left, api.ErrForm, len(x))
		}
	}
}

func TestOneByteIsTurned(t *testing.T) {
	ahead, behind := whole("ahead"), whole("behind")+whole(text(700))
	turn := func(x string, at, by int) {
		b := []byte(x)
		b[at] ^= byte(by)
		y := string(b)
		want := refusal(y, 0)
		if want == api.OK {
			t.Fatalf("byte %d, by %d: what is tried here doesn't tell turned frames", at, by)
		}
		nextFails(t, y, 0, want)
		openFails(t, y, want, 0)
		s := ahead + y + behind
		nextFails(t, s, len(ahead), refusal(s, len(ahead)))
		allAre(t, s, []string{"ahead"}, len(ahead))
	}
	for _, n := range []int{0, 1, 2, 7, 64, 300} {
		x := whole(text(n))
		for at := range len(x) {
			for by := 1; by < 256; by++ {
				if n < 300 || at < head || by&(by-1) == 0 {
					turn(x, at, by)
				}
			}
		}
	}
	x := whole(text(greatest))
	for _, at := range []int{0, 3, 4, 5, 6, 255, 30000, len(x) - 1} {
		turn(x, at, 1)
		turn(x, at, 128)
	}
}

// endingFor is the four bytes behind which s has that sum.
func endingFor(s string, sum uint32) string {
	register := ^sum
	for range 32 {
		out := register >> 31 // the highest bit of what the register is turned by is a 1
		register = (register^out*0x82F63B78)<<1 | out
	}
	return string(binary.LittleEndian.AppendUint32(nil, register^^sumOf(s)))
}

// TestTurnedLengthWithASumThatIsSo: behind the turned length the sum may be that of the bytes that are told then; the rest is left.
func TestTurnedLengthWithASumThatIsSo(t *testing.T) {
	const short, long = "\x2c\x00", "\x2c\x01"
	s := text(296)
	s += endingFor(long+s, sumOf(short+s[:44]))
	x, e := frame.Seal(s)
	if x != whole(s) || x[:4] != whole(s[:44])[:4] || e != nil {
		t.Fatalf("%.9q, %v", x, e)
	}
	openFails(t, x[:4]+short+x[head:], api.ErrForm, head+44)
}

func TestAllFrames(t *testing.T) {
	allAre(t, "", nil, 0)
	s, ends := "", []int{0}
	var l []string
	for _, n := range []int{0, 300, 0, 0, 1, 64, greatest, 2, 0} {
		l = append(l, text(n))
		s += whole(text(n))
		ends = append(ends, len(s))
		allAre(t, s, l, len(s))
		for _, left := range []string{"\x00", "abcde", "abcdef", "\x00\x00\x00\x00\x00\x00", strings.Repeat("\xff", 70)} {
			allAre(t, s+left, l, len(s))
			allAre(t, left+s, nil, 0)
			allAre(t, s+left+whole("behind"), l, len(s))
		}
	}
	for i, end := range ends {
		allAre(t, s[:end], l[:i], end)
		if end < len(s) {
			allAre(t, s[end:], l[i:], len(s)-end)
		}
	}
}

// TestAnyBytes: frames at every place of bytes that have some, with and without faults.
func TestAnyBytes(t *testing.T) {
	x := uint32(1)
	pick := func(n int) int {
		x = x*1664525 + 1013904223
		return int(x>>8) % n
	}
	for range 300 {
		var b []byte
		for range pick(5) {
			b = append(b, whole(text(pick(20)))...)
		}
		b = append(b, text(pick(9))...)
		if len(b) > 0 && pick(2) == 0 {
			b[pick(len(b))] = byte(pick(256))
		}
		s := string(b)
		var l []string
		end := 0
		for refusal(s, end) == api.OK {
			n := int(binary.LittleEndian.Uint16(b[end+4:]))
			l = append(l, s[end+head:end+head+n])
			end += head + n
		}
		allAre(t, s, l, end)
		for at := -1; at <= len(s)+1; at++ {
			if want := refusal(s, at); want != api.OK {
				nextFails(t, s, at, want)
				continue
			}
			n := int(binary.LittleEndian.Uint16(b[at+4:]))
			nextIs(t, s, at, s[at+head:at+head+n], at+head+n)
		}
	}
}

func TestTextsShareNothingWithTheBytes(t *testing.T) {
	s := whole("one") + whole("two")
	shares := func(got string) bool {
		at, begin := uintptr(unsafe.Pointer(unsafe.StringData(got))), uintptr(unsafe.Pointer(unsafe.StringData(s)))
		return at >= begin && at < begin+uintptr(len(s))
	}
	one, _, _ := frame.Next(s, 0)
	alone, _ := frame.Open(s[:head+3])
	l, _ := frame.All(s)
	for _, got := range append(l, one, alone) {
		if shares(got) {
			t.Errorf("%q lies in what was handed in", got)
		}
	}
	l[0], l[1] = "", ""
	allAre(t, s, []string{"one", "two"}, len(s))
}
