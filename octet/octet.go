// Package octet is layer 1: numbers and texts as bytes: see shared/doc/01-octet.md.
package octet

import (
	"strings"

	"lading/api"
)

const (
	maxFixed = 7
	maxShort = 8 // seven bits in each hold api.MaxNum just so
	more     = 128
	half     = (api.MaxNum + 1) / 2
)

// PutFixed is a number's n bytes.
func PutFixed(n, x int) (string, error) {
	if !isFixed(n) {
		return "", api.ErrArg
	}
	if x < 0 || x >= 1<<(8*n) {
		return "", api.ErrRange
	}
	b := make([]byte, n)
	for i := range n {
		b[i] = byte(x >> (8 * i))
	}
	return string(b), nil
}

// PutShort is a short number's bytes.
func PutShort(x int) (string, error) {
	if x < 0 || x > api.MaxNum {
		return "", api.ErrRange
	}
	return string(appendShort(nil, x)), nil
}

// PutTurned is a turned number's bytes.
func PutTurned(x int) (string, error) {
	if !turns(x) {
		return "", api.ErrRange
	}
	return PutShort(Turn(x))
}

// PutText is texts' bytes.
func PutText(l ...string) string {
	var b []byte
	for _, s := range l {
		b = appendShort(b, len(s))
		b = append(b, s...)
	}
	return string(b)
}

// Fixed reads a number in n bytes.
func Fixed(s string, at, n int) (int, int, error) {
	if !isPlace(s, at) || !isFixed(n) {
		return 0, at, fault(at, api.ErrArg)
	}
	if n > len(s)-at {
		return 0, at, fault(len(s), api.ErrShort)
	}
	x := 0
	for i := range n {
		x |= int(s[at+i]) << (8 * i)
	}
	return x, at + n, nil
}

// Short reads a short number.
func Short(s string, at int) (int, int, error) {
	if !isPlace(s, at) {
		return 0, at, fault(at, api.ErrArg)
	}
	x := 0
	for i := range maxShort {
		if at+i == len(s) {
			return 0, at, fault(len(s), api.ErrShort)
		}
		b := int(s[at+i])
		if b == 0 && i > 0 { // else one number could be written in two ways
			return 0, at, fault(at, api.ErrForm)
		}
		x |= b % more << (7 * i)
		if b < more {
			return x, at + i + 1, nil
		}
	}
	return 0, at, fault(at, api.ErrForm)
}

// Turned reads a turned number.
func Turned(s string, at int) (int, int, error) {
	x, next, err := Short(s, at)
	return Back(x), next, err
}

// Text reads a text.
func Text(s string, at, most int) (string, int, error) {
	n, begin, err := Short(s, at)
	if err != nil {
		return "", at, err
	}
	if n > most {
		return "", at, fault(at, api.ErrLong)
	}
	if n > len(s)-begin { // not begin+n > len(s): this way round no sum can be too great
		return "", at, fault(len(s), api.ErrShort)
	}
	return strings.Clone(s[begin : begin+n]), begin + n, nil // a piece of s would keep all of s
}

// Turn is the number that is written for one.
func Turn(x int) int {
	if !turns(x) {
		return 0
	}
	if x < 0 {
		return -2*x - 1
	}
	return 2 * x
}

// Back is what it is turned from.
func Back(x int) int {
	if x < 0 {
		return 0
	}
	if x%2 == 1 {
		return -(x / 2) - 1 // x+1 might wrap round
	}
	return x / 2
}

func isFixed(n int) bool { return n >= 1 && n <= maxFixed }

func isPlace(s string, at int) bool { return at >= 0 && at <= len(s) }

func turns(x int) bool { return x >= -half && x < half }

func fault(at int, e api.Errno) error { return api.Fault{At: at, Err: e} }

func appendShort(b []byte, x int) []byte {
	for x >= more {
		b = append(b, byte(x%more+more))
		x /= more
	}
	return append(b, byte(x))
}
