package octet_test

import (
	"errors"
	"math"
	"slices"
	"strings"
	"testing"
	"unsafe"

	"lading/api"
	"lading/octet"
)

// All tests here are of promise P1.1.

const (
	greatest = 1<<56 - 1
	half     = 1 << 55
)

// numbers are 0, all that stand next to a power of two, and some between.
func numbers() []int {
	l := []int{0, 300, 0x010203, 0x0102030405, 0x01020304050607}
	for i := range 57 {
		l = append(l, 1<<i-1, 1<<i, 1<<i+1)
	}
	for x := 3; x < greatest/7; x *= 7 {
		l = append(l, x)
	}
	return l
}

// far are the numbers that no bytes are for, whatever they are taken as.
var far = []int{greatest + 1, 1<<56 + 1, 1 << 57, 1 << 62, math.MaxInt, math.MinInt, math.MinInt + 1, -1 << 56}

// around are bytes that may stand ahead of, and behind, what is read.
var around = []string{"", "\x00", "\x80", "\xff\x00\x7f", "\xff\xff\xff\xff\xff\xff\xff\xff\xff"}

func isPlain(t *testing.T, e error, want api.Errno) {
	t.Helper()
	if e == nil {
		t.Errorf("no error, want %d", want)
		return
	}
	n, ok := e.(api.Errno)
	if !ok || n != want || api.Place(e) != -1 {
		t.Errorf("error %d at %d, want just %d", api.Code(e), api.Place(e), want)
	}
}

func isFault(t *testing.T, e error, want api.Errno, at int) {
	t.Helper()
	if e == nil {
		t.Errorf("no error, want %d at %d", want, at)
		return
	}
	f, ok := e.(api.Fault)
	if !ok || f.At != at || !errors.Is(f.Err, want) {
		t.Errorf("error %d at %d, want %d at %d", api.Code(e), api.Place(e), want, at)
	}
}

// reading is what one that reads answers.
type reading[T int | string] struct {
	got  T
	next int
	err  error
}

func read[T int | string](got T, next int, err error) reading[T] { return reading[T]{got, next, err} }

func (r reading[T]) is(t *testing.T, want T, next int) {
	t.Helper()
	if r.got != want || r.next != next || r.err != nil {
		t.Errorf("read %#v, behind it %d, %v; want %#v, behind it %d", r.got, r.next, r.err, want, next)
	}
}

func (r reading[T]) fails(t *testing.T, want api.Errno, handed, at int) {
	t.Helper()
	isFault(t, r.err, want, at)
	var zero T
	if r.got != zero || r.next != handed {
		t.Errorf("with an error: %#v, %d; want %#v, %d", r.got, r.next, zero, handed)
	}
}

// fixedBytes and shortBytes write the slow way, digit by digit.
func fixedBytes(n, x int) string {
	s := ""
	for ; n > 0; n-- {
		s += string([]byte{byte(x % 256)})
		x /= 256
	}
	return s
}

func shortBytes(x int) string {
	if x < 128 {
		return string([]byte{byte(x)})
	}
	return string([]byte{byte(x%128 + 128)}) + shortBytes(x/128)
}

func TestFixedIsWrittenAndRead(t *testing.T) {
	for n := 1; n <= 7; n++ {
		top := 1<<(8*n) - 1
		for _, x := range append(numbers(), top) {
			if x > top {
				continue
			}
			s, e := octet.PutFixed(n, x)
			if s != fixedBytes(n, x) || e != nil {
				t.Errorf("PutFixed(%d, %d): %q, %v", n, x, s, e)
			}
			for _, a := range around {
				for _, b := range around {
					read(octet.Fixed(a+s+b, len(a), n)).is(t, x, len(a)+n)
				}
			}
		}
	}
	if s, _ := octet.PutFixed(3, 0x010203); s != "\x03\x02\x01" {
		t.Errorf("%q", s)
	}
	if s, _ := octet.PutFixed(7, greatest); s != "\xff\xff\xff\xff\xff\xff\xff" {
		t.Errorf("%q", s)
	}
}

func TestPutFixedRefuses(t *testing.T) {
	for _, n := range []int{0, -1, 8, 9, 64, 65, math.MaxInt, math.MinInt} {
		for _, x := range []int{0, 1, -1, math.MaxInt} { // ErrArg is asked ahead of ErrRange
			s, e := octet.PutFixed(n, x)
			isPlain(t, e, api.ErrArg)
			if s != "" {
				t.Errorf("PutFixed(%d, %d): %q", n, x, s)
			}
		}
	}
	for n := 1; n <= 7; n++ {
		for _, x := range append([]int{-1, -256, 1 << (8 * n), 1<<(8*n) + 1}, far...) {
			s, e := octet.PutFixed(n, x)
			isPlain(t, e, api.ErrRange)
			if s != "" {
				t.Errorf("PutFixed(%d, %d): %q", n, x, s)
			}
		}
	}
}

func TestFixedRefuses(t *testing.T) {
	for _, s := range []string{"", "a", "abcdefgh"} {
		for _, at := range []int{-1, len(s) + 1, math.MaxInt, math.MaxInt - 3, math.MinInt} {
			for _, n := range []int{0, 1, 7, 8} {
				read(octet.Fixed(s, at, n)).fails(t, api.ErrArg, at, at)
			}
		}
		for at := range len(s) + 1 {
			for _, n := range []int{0, -1, 8, math.MaxInt, math.MinInt} {
				read(octet.Fixed(s, at, n)).fails(t, api.ErrArg, at, at)
			}
			for n := 1; n <= 7; n++ {
				if r := read(octet.Fixed(s, at, n)); at+n > len(s) {
					r.fails(t, api.ErrShort, at, len(s))
				} else if r.err != nil {
					t.Errorf("Fixed(%q, %d, %d): %v", s, at, n, r.err)
				}
			}
		}
	}
}

func TestShortIsWrittenAndRead(t *testing.T) {
	for _, x := range numbers() {
		if x > greatest {
			continue
		}
		s, e := octet.PutShort(x)
		if s != shortBytes(x) || e != nil {
			t.Errorf("PutShort(%d): %q, %v", x, s, e)
		}
		for _, a := range around {
			for _, b := range around {
				read(octet.Short(a+s+b, len(a))).is(t, x, len(a)+len(s))
			}
			for cut := range len(s) {
				read(octet.Short(a+s[:cut], len(a))).fails(t, api.ErrShort, len(a), len(a)+cut)
			}
		}
	}
	for x, want := range map[int]string{0: "\x00", 127: "\x7f", 128: "\x80\x01", 300: "\xac\x02", 1<<14 - 1: "\xff\x7f", 1 << 14: "\x80\x80\x01",
		1<<49 - 1: "\xff\xff\xff\xff\xff\xff\x7f", 1 << 49: "\x80\x80\x80\x80\x80\x80\x80\x01", greatest: "\xff\xff\xff\xff\xff\xff\xff\x7f"} {
		if s, e := octet.PutShort(x); s != want || e != nil {
			t.Errorf("PutShort(%d): %q, %v", x, s, e)
		}
	}
}

func TestPutShortRefuses(t *testing.T) {
	for _, x := range append([]int{-1, -128, -half}, far...) {
		s, e := octet.PutShort(x)
		isPlain(t, e, api.ErrRange)
		if s != "" {
			t.Errorf("PutShort(%d): %q", x, s)
		}
	}
}

func TestShortRefuses(t *testing.T) {
	seven := strings.Repeat("\x80", 7)
	for _, s := range []string{
		"\x80\x00", "\xff\x00", "\xac\x82\x00", strings.Repeat("\x80", 6) + "\x00",
		seven + "\x00", "\xff\xff\xff\xff\xff\xff\xff\x00", // the eighth byte is the last one, and 0
		seven + "\x80", seven + "\x81", seven + "\xff", // the eighth byte isn't the last one
		seven + "\x80\x01", seven + "\xff\x00",
	} {
		for _, a := range around {
			for _, b := range around {
				read(octet.Short(a+s+b, len(a))).fails(t, api.ErrForm, len(a), len(a))
			}
		}
	}
	read(octet.Short(seven, 0)).fails(t, api.ErrShort, 0, 7)
	read(octet.Short(seven+"\x01", 0)).is(t, 1<<49, 8)
	for _, s := range []string{"", "\x00", "\x80\x00", "ab"} {
		for _, at := range []int{-1, -2, len(s) + 1, math.MaxInt, math.MinInt} {
			read(octet.Short(s, at)).fails(t, api.ErrArg, at, at)
			read(octet.Turned(s, at)).fails(t, api.ErrArg, at, at)
		}
	}
	read(octet.Short("ab", 2)).fails(t, api.ErrShort, 2, 2) // the end is a place, at which nothing stands
}

// texts are all of some bytes, up to a length.
func texts(letters []byte, most int, visit func(string)) {
	var b []byte
	var grow func()
	grow = func() {
		visit(string(b))
		if len(b) == most {
			return
		}
		for _, c := range letters {
			b = append(b, c)
			grow()
			b = b[:len(b)-1]
		}
	}
	grow()
}

// TestNothingElseIsRead: of any bytes at all a number is read just if they begin with what is written for it.
func TestNothingElseIsRead(t *testing.T) {
	var all []byte
	for i := range 256 {
		all = append(all, byte(i))
	}
	check := func(s string) {
		x, next, e := octet.Short(s, 0)
		y, next2, e2 := octet.Turned(s, 0)
		if next2 != next || api.Code(e2) != api.Code(e) || api.Place(e2) != api.Place(e) || y != octet.Back(x) {
			t.Fatalf("Turned(%q): %d, %d, %v", s, y, next2, e2)
		}
		last := strings.IndexFunc(s, func(r rune) bool { return r < 128 })
		bad := last > 7 || last == -1 && len(s) > 7 || last > 0 && s[last] == 0
		switch {
		case bad:
			if api.Code(e) != int(api.ErrForm) || api.Place(e) != 0 || x != 0 || next != 0 {
				t.Fatalf("Short(%q): %d, %d, %v", s, x, next, e)
			}
		case last == -1:
			if api.Code(e) != int(api.ErrShort) || api.Place(e) != len(s) || x != 0 || next != 0 {
				t.Fatalf("Short(%q): %d, %d, %v", s, x, next, e)
			}
		default:
			if w, f := octet.PutShort(x); e != nil || f != nil || next != last+1 || w != s[:next] {
				t.Fatalf("Short(%q): %d, %d, %v", s, x, next, e)
			}
			if w, f := octet.PutTurned(y); f != nil || w != s[:next] {
				t.Fatalf("Turned(%q): %d, %v", s, y, f)
			}
		}
	}
	texts(all, 2, check)
	texts([]byte{0, 1, 128, 255}, 9, check)
}

func TestTurnedIsWrittenAndRead(t *testing.T) {
	for x, want := range map[int]string{0: "\x00", -1: "\x01", 1: "\x02", -2: "\x03", 63: "\x7e", -64: "\x7f", 64: "\x80\x01", -65: "\x81\x01",
		half - 1: "\xfe\xff\xff\xff\xff\xff\xff\x7f", -half: "\xff\xff\xff\xff\xff\xff\xff\x7f"} {
		if s, e := octet.PutTurned(x); s != want || e != nil {
			t.Errorf("PutTurned(%d): %q, %v", x, s, e)
		}
	}
	for _, n := range numbers() {
		for _, x := range []int{n, -n} {
			if x < -half || x >= half {
				continue
			}
			s, e := octet.PutTurned(x)
			if e != nil {
				t.Errorf("PutTurned(%d): %v", x, e)
			}
			for _, a := range around {
				for _, b := range around {
					read(octet.Turned(a+s+b, len(a))).is(t, x, len(a)+len(s))
				}
				for cut := range len(s) {
					read(octet.Turned(a+s[:cut], len(a))).fails(t, api.ErrShort, len(a), len(a)+cut)
				}
			}
		}
	}
}

func TestTurnedRefuses(t *testing.T) {
	for _, x := range append([]int{half, half + 1, -half - 1, -half - 2}, far...) {
		s, e := octet.PutTurned(x)
		isPlain(t, e, api.ErrRange)
		if s != "" {
			t.Errorf("PutTurned(%d): %q", x, s)
		}
	}
	read(octet.Turned("a\x81\x00", 1)).fails(t, api.ErrForm, 1, 1)
	read(octet.Turned("a"+strings.Repeat("\xff", 8), 1)).fails(t, api.ErrForm, 1, 1)
	read(octet.Turned("a\x81", 1)).fails(t, api.ErrShort, 1, 2)
	read(octet.Turned("a", 1)).fails(t, api.ErrShort, 1, 1)
}

func TestTurnAndBack(t *testing.T) {
	for x, want := range map[int]int{0: 0, 1: 2, -1: 1, 2: 4, -2: 3, 150: 300, half - 1: greatest - 1, -half: greatest, half - 2: greatest - 3, -half + 1: greatest - 2} {
		if octet.Turn(x) != want || octet.Back(want) != x {
			t.Errorf("Turn(%d): %d; Back(%d): %d", x, octet.Turn(x), want, octet.Back(want))
		}
	}
	for _, x := range numbers() {
		if x <= greatest && octet.Turn(octet.Back(x)) != x {
			t.Errorf("%d is turned back to %d", x, octet.Back(x))
		}
	}
	for _, x := range append([]int{half, -half - 1}, far...) {
		if octet.Turn(x) != 0 {
			t.Errorf("Turn(%d): %d", x, octet.Turn(x))
		}
	}
	for _, x := range []int{-1, -2, -3, -half, math.MinInt, math.MinInt + 1} {
		if octet.Back(x) != 0 {
			t.Errorf("Back(%d): %d", x, octet.Back(x))
		}
	}
	for x, want := range map[int]int{greatest + 1: half, greatest + 2: -half - 1, math.MaxInt: math.MinInt / 2, math.MaxInt - 1: math.MaxInt / 2} { // the chapter makes 0 only of what is below 0
		if octet.Back(x) != want {
			t.Errorf("Back(%d): %d", x, octet.Back(x))
		}
	}
}

func TestTextsAreWrittenAndRead(t *testing.T) {
	if s := octet.PutText(); s != "" {
		t.Errorf("%q", s)
	}
	if s := octet.PutText("ab", "", "\x00\xff"); s != "\x02ab\x00\x02\x00\xff" {
		t.Errorf("%q", s)
	}
	var l []string
	for _, n := range []int{0, 1, 2, 127, 128, 129, 300, 1<<14 - 1, 1 << 14, 1 << 21, 0} {
		l = append(l, strings.Repeat("\x80\x00x", n)[:n])
	}
	kept := slices.Clone(l)
	s := octet.PutText(l...)
	if !slices.Equal(l, kept) {
		t.Error("the list was written into")
	}
	want := ""
	for _, x := range l {
		want += shortBytes(len(x)) + x
	}
	if s != want {
		t.Errorf("%d bytes, want %d", len(s), len(want))
	}
	for _, a := range around {
		at := len(a)
		for _, x := range l {
			next := at + len(shortBytes(len(x))) + len(x)
			for _, most := range []int{len(x), len(x) + 1, math.MaxInt} {
				read(octet.Text(a+s, at, most)).is(t, x, next)
			}
			at = next
		}
		read(octet.Text(a+s, at, 9)).fails(t, api.ErrShort, at, at) // at the end
	}
}

func TestTextRefuses(t *testing.T) {
	for _, a := range around {
		at := len(a)
		for _, n := range []int{1, 2, 127, 128, 300} {
			s := a + octet.PutText(strings.Repeat("x", n))
			for _, most := range []int{n - 1, 0, -1, math.MinInt} {
				read(octet.Text(s, at, most)).fails(t, api.ErrLong, at, at)
			}
			for cut := at; cut < len(s); cut++ {
				read(octet.Text(s[:cut], at, n)).fails(t, api.ErrShort, at, cut)
			}
			read(octet.Text(s[:len(s)-1], at, n-1)).fails(t, api.ErrLong, at, at) // asked ahead of ErrShort
		}
		read(octet.Text(a+"\x00", at, -1)).fails(t, api.ErrLong, at, at)
		read(octet.Text(a+"\x00", at, 0)).is(t, "", at+1)
		huge := a + shortBytes(greatest) + "abc"
		read(octet.Text(huge, at, math.MaxInt)).fails(t, api.ErrShort, at, len(huge))
		read(octet.Text(huge, at, greatest-1)).fails(t, api.ErrLong, at, at)
		for _, most := range []int{-1, 0, 9} { // Short's errors are asked ahead of ErrLong
			read(octet.Text(a+"\x80\x00", at, most)).fails(t, api.ErrForm, at, at)
			read(octet.Text(a+strings.Repeat("\xff", 8)+"\x01", at, most)).fails(t, api.ErrForm, at, at)
			read(octet.Text(a+"\x82", at, most)).fails(t, api.ErrShort, at, at+1)
		}
	}
	for _, s := range []string{"", "\x00", "\x01a"} {
		for _, at := range []int{-1, len(s) + 1, math.MaxInt, math.MinInt} {
			read(octet.Text(s, at, 9)).fails(t, api.ErrArg, at, at)
			read(octet.Text(s, at, -1)).fails(t, api.ErrArg, at, at)
		}
	}
}

// TestTextIsNewMemory: the document's second rule, for all that is answered.
func TestTextIsNewMemory(t *testing.T) {
	s := octet.PutText("abc")
	x, _, _ := octet.Text(s, 0, 3)
	if unsafe.StringData(x) == unsafe.StringData(s[1:]) {
		t.Error("what is read is a piece of what was handed in")
	}
}
