// Package crcs is layer 2, sums of bytes: see shared/doc/02-crcs.md.
package crcs

import (
	"strings"

	"duet/api"
)

const (
	lowest = 1<<24 - 1 // the bits of a sum
	turned = 0x864cfb  // the bits that a step turns
	begin  = 0xb704ce  // the sum of the empty text
	tail   = 3         // bytes of a sum behind a sealed text
)

// Sum is a text's, More goes on with one.
func Sum(s string) int { return More(begin, s) }

func More(sum int, s string) int {
	table := steps()
	sum &= lowest
	for i := range len(s) {
		b := int(s[i])
		for _, half := range [2]int{b >> 4, b & 15} {
			// A bit counts only by whether it is the sum's highest one, so four are put together ahead of their steps; what the sum's lower bits add is only moved.
			sum = sum<<4&lowest ^ table[sum>>20^half]
		}
	}
	return sum
}

// Seal puts a text's sum behind it, Open takes it off.
func Seal(s string) string { return s + bytesOf(Sum(s)) }

// What was sealed is copied: an answer shares no memory with what was handed in.
func Open(s string) (string, api.Errno) {
	if len(s) < tail {
		return "", api.ErrCut
	}
	text, sum := s[:len(s)-tail], s[len(s)-tail:]
	if bytesOf(Sum(text)) != sum {
		return "", api.ErrSum
	}
	return strings.Clone(text), api.OK
}

func bytesOf(sum int) string {
	return string([]byte{byte(sum >> 16), byte(sum >> 8), byte(sum)})
}

// step is one with the bit 0.
func step(sum int) int {
	next := sum << 1 & lowest
	if sum>>23 != 0 {
		next ^= turned
	}
	return next
}

// steps has what four steps with the bit 0 make of each sum whose lowest 20 bits are 0.
// Four at a time, not eight: it is made anew in each call, and most texts are short.
func steps() [16]int {
	var table [16]int
	for high := range table {
		sum := high << 20
		for range 4 {
			sum = step(sum)
		}
		table[high] = sum
	}
	return table
}
