package crcs

import (
	"math"
	"strings"
	"testing"
	"unsafe"

	"duet/api"
)

// slow goes on with a sum as the document's words say it, bit by bit.
func slow(sum int, s string) int {
	sum = (sum%(1<<24) + 1<<24) % (1 << 24)
	for _, b := range []byte(s) {
		for weight := 128; weight > 0; weight /= 2 {
			bit := int(b) / weight % 2
			next := 2 * sum
			if next >= 1<<24 {
				next -= 1 << 24
			}
			if sum/(1<<23) != bit {
				next ^= 0x864cfb
			}
			sum = next
		}
	}
	return sum
}

// source makes numbers that are the same in each run.
type source uint64

func (x *source) next() int {
	*x = *x*6364136223846793005 + 1442695040888963407
	return int(*x >> 33)
}

func (x *source) text(n int) string {
	b := make([]byte, n)
	for i := range b {
		b[i] = byte(x.next())
	}
	return string(b)
}

// turn turns the bits of a pattern in s, its lowest one at the bit number at (of the text's end).
func turn(s string, pattern int, at int) string {
	b := []byte(s)
	for i := 0; pattern>>i != 0; i++ {
		if pattern>>i&1 == 1 {
			b[len(b)-1-(at+i)/8] ^= 1 << ((at + i) % 8)
		}
	}
	return string(b)
}

func TestSum(t *testing.T) {
	for s, want := range map[string]int{"": 0xb704ce, "123456789": 0x21cf02} {
		if n := Sum(s); n != want {
			t.Errorf("P2.1: Sum(%q): %x", s, n)
		}
	}
	x := source(1)
	for n := range 300 {
		s := x.text(n)
		if got, want := Sum(s), slow(0xb704ce, s); got != want {
			t.Errorf("P2.1: Sum(%x): %x, not %x", s, got, want)
		}
	}
}

func TestMore(t *testing.T) {
	for sum, want := range map[int]int{0: 0, 5: 5, 1<<24 - 1: 1<<24 - 1, 1 << 24: 0, 1<<24 + 7: 7, -1: 1<<24 - 1, -1 << 24: 0, -1<<24 + 3: 3, -2: 1<<24 - 2, math.MaxInt: 1<<24 - 1, math.MinInt: 0, math.MinInt + 9: 9} {
		if n := More(sum, ""); n != want {
			t.Errorf("P2.1: More(%d, nothing): %x, not %x", sum, n, want)
		}
	}
	if n := More(0, "\x01"); n != 0x864cfb {
		t.Errorf("P2.1: the highest bit first: %x", n)
	}
	if n := More(1<<23, "\x80"); n != 0 {
		t.Errorf("P2.1: a bit like the sum's highest one turns nothing: %x", n)
	}
	for b := range 256 {
		s := string([]byte{byte(b)})
		for bit := range 24 {
			for _, sum := range []int{1 << bit, 1<<bit - 1, -1 << bit, 1<<bit + 1<<40} {
				if n := More(sum, s); n != slow(sum, s) {
					t.Errorf("P2.1: More(%x, %x): %x, not %x", sum, s, n, slow(sum, s))
				}
			}
		}
	}
	x := source(2)
	for n := range 200 {
		sum, s := x.next()-1<<30, x.text(n)
		if got, want := More(sum, s), slow(sum, s); got != want {
			t.Errorf("P2.1: More(%d, %x): %x, not %x", sum, s, got, want)
		}
		if n := More(sum, s); n != slow(sum, s) {
			t.Errorf("R6: the same call again: %x", n)
		}
	}
}

func TestSeal(t *testing.T) {
	for s, want := range map[string]string{"": "\xb7\x04\xce", "123456789": "123456789\x21\xcf\x02"} {
		if u := Seal(s); u != want {
			t.Errorf("P2.2: Seal(%q): %x", s, u)
		}
	}
	x := source(3)
	for n := range 300 {
		s := x.text(n)
		if u, e := Open(Seal(s)); u != s || e != api.OK {
			t.Errorf("P2.3: Open of what %x is sealed to: %x, %d", s, u, e)
		}
	}
	long := strings.Repeat("\x00\x7e\xff", 100000)
	if u, e := Open(Seal(long)); u != long || e != api.OK {
		t.Errorf("P2.3: a long text: %d bytes, %d", len(u), e)
	}
}

func TestOpenWrong(t *testing.T) {
	for s, want := range map[string]api.Errno{
		"": api.ErrCut, "\xb7": api.ErrCut, "\xb7\x04": api.ErrCut,
		"\x00\x00\x00": api.ErrSum, "\xb7\x04\xcf": api.ErrSum, "\xb6\x04\xce": api.ErrSum, "\xb7\x05\xce": api.ErrSum, "\xce\x04\xb7": api.ErrSum,
		"123456789\x21\xcf\x03": api.ErrSum, "123456788\x21\xcf\x02": api.ErrSum, "123456789\x02\xcf\x21": api.ErrSum,
		"123456789\x21\xcf": api.ErrSum, "\x21\xcf\x02123456789": api.ErrSum, "x\xb7\x04\xce": api.ErrSum,
	} {
		if u, e := Open(s); u != "" || e != want {
			t.Errorf("P2.2, R3: Open(%x): %x, %d; not %d", s, u, e, want)
		}
	}
}

func TestTurnedBitsAreSeen(t *testing.T) {
	seen := func(s string, pattern int, at int) {
		if u, e := Open(turn(s, pattern, at)); u != "" || e != api.ErrSum {
			t.Errorf("P2.3: %x, bits %x turned at %d: %x, %d", s, pattern, at, u, e)
		}
	}
	x := source(4)
	for _, n := range []int{0, 1, 2, 9, 40} {
		s := Seal(x.text(n))
		for at := range 8 * len(s) {
			room := min(24, 8*len(s)-at)
			for pattern := 1; pattern < 1<<min(room, 8); pattern++ {
				seen(s, pattern, at)
			}
			for range 200 {
				seen(s, x.next()%(1<<room)|1, at)
			}
			seen(s, 1<<room-1, at)
			seen(s, 1<<(room-1)|1, at)
		}
	}
}

func TestSumGoesOn(t *testing.T) {
	x := source(5)
	for _, n := range []int{0, 1, 2, 3, 17, 64} {
		s := x.text(n)
		for cut := range n + 1 {
			if got, want := More(Sum(s[:cut]), s[cut:]), Sum(s); got != want {
				t.Errorf("P2.3: %x cut at %d: %x, not %x", s, cut, got, want)
			}
		}
	}
}

func TestNewMemory(t *testing.T) {
	text := strings.Repeat("a", 40)
	sealed := Seal(text)
	opened, _ := Open(sealed)
	if unsafe.StringData(sealed) == unsafe.StringData(text) || unsafe.StringData(opened) == unsafe.StringData(sealed) {
		t.Error("R5: an answer shares memory with what was handed in")
	}
}
