// Package pack is layer 1, numbers and texts as bytes: see shared/doc/01-pack.md.
package pack

import (
	"strings"

	"duet/api"
)

const (
	oneByte = 248   // a number below this is its own byte
	lead    = 247   // the first byte of a longer one, less how many are behind it
	most    = 4     // bytes behind the first one
	maxText = 65535 // bytes of a text
	maxList = 1000  // numbers of a list
)

// Num writes a number, Take reads one that a text begins with, and tells what is behind it.
func Num(n int) (string, api.Errno) {
	if !fits(n) {
		return "", api.ErrArg
	}
	return string(put(nil, n)), api.OK
}

// What is behind the number is copied: an answer shares no memory with what was handed in.
func Take(s string) (int, string, api.Errno) {
	n, size, e := read(s)
	if e != api.OK {
		return 0, "", e
	}
	return n, strings.Clone(s[size:]), api.OK
}

// Text writes a text with its length, Cut reads one.
func Text(s string) (string, api.Errno) {
	if len(s) > maxText {
		return "", api.ErrArg
	}
	return string(put(nil, len(s))) + s, api.OK
}

func Cut(s string) (string, string, api.Errno) {
	n, size, e := read(s)
	if e != api.OK {
		return "", "", e
	}
	if n > maxText {
		return "", "", api.ErrForm
	}
	rest := s[size:]
	if len(rest) < n {
		return "", "", api.ErrCut
	}
	return strings.Clone(rest[:n]), strings.Clone(rest[n:]), api.OK
}

// List writes numbers with how many they are, Each reads such.
func List(l []int) (string, api.Errno) {
	if len(l) > maxList {
		return "", api.ErrArg
	}
	b := put(nil, len(l))
	for _, n := range l {
		if !fits(n) {
			return "", api.ErrArg
		}
		b = put(b, n)
	}
	return string(b), api.OK
}

func Each(s string) ([]int, string, api.Errno) {
	count, size, e := read(s)
	if e != api.OK {
		return nil, "", e
	}
	if count > maxList {
		return nil, "", api.ErrForm
	}
	rest := s[size:]
	l := make([]int, 0, count)
	for range count {
		n, size, e := read(rest)
		if e != api.OK {
			return nil, "", e
		}
		l = append(l, n)
		rest = rest[size:]
	}
	return l, strings.Clone(rest), api.OK
}

func fits(n int) bool { return n >= 0 && n <= api.MaxClock }

// behind is how many bytes a number that fits has behind its first one.
func behind(n int) int {
	switch {
	case n < oneByte:
		return 0
	case n < 1<<8:
		return 1
	case n < 1<<16:
		return 2
	case n < 1<<24:
		return 3
	}
	return most
}

// put appends the bytes of a number that fits.
func put(b []byte, n int) []byte {
	k := behind(n)
	if k > 0 {
		b = append(b, byte(lead+k))
	}
	switch k {
	case 4:
		b = append(b, byte(n>>24))
		fallthrough
	case 3:
		b = append(b, byte(n>>16))
		fallthrough
	case 2:
		b = append(b, byte(n>>8))
		fallthrough
	default:
		b = append(b, byte(n))
	}
	return b
}

// read tells a number and how many bytes it has, so that a list is read without a copy of what is behind each number.
func read(s string) (int, int, api.Errno) {
	if s == "" {
		return 0, 0, api.ErrCut
	}
	first := int(s[0])
	if first < oneByte {
		return first, 1, api.OK
	}
	k := first - lead
	if k > most {
		return 0, 0, api.ErrForm
	}
	if len(s) <= k {
		return 0, 0, api.ErrCut
	}
	n := 0
	for i := range k {
		n = n<<8 | int(s[1+i])
	}
	// k bytes say one number alone: it would be written otherwise only if it needed fewer.
	if behind(n) != k {
		return 0, 0, api.ErrForm
	}
	return n, 1 + k, api.OK
}
