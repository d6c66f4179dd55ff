package cells

import (
	"math"
	"slices"
	"strconv"
	"strings"
	"testing"
)

// source makes numbers that are the same in each run.
type source uint64

func (x *source) below(n int) int {
	*x = *x*6364136223846793005 + 1442695040888963407
	return int(*x>>33) % n
}

func (x *source) runes(n int) []int {
	some := []int{'a', ' ', 0x4e00, 0x301, 0x200b, 7, 0x1f600, 0x110000, -1, 0xe9, 0xff01}
	l := make([]int, n)
	for i := range l {
		l[i] = some[x.below(len(some))]
	}
	return l
}

// The document's words, as it writes them.
const (
	none = "7f to 9f, 300 to 36f, 200b to 200f, 20d0 to 20ff, d800 to dfff, fe00 to fe0f, fe20 to fe2f"
	two  = "1100 to 115f, 2e80 to 303e, 3041 to a4cf, ac00 to d7a3, f900 to faff, fe30 to fe6f, ff01 to ff60, ffe0 to ffe6, 1f300 to 1f64f, 1f680 to 1f6ff, 1f900 to 1f9ff, 20000 to 3fffd"
)

// ends reads the words: the first and the last rune of each range.
func ends(t *testing.T, words string) [][2]int {
	t.Helper()
	var l [][2]int
	for _, word := range strings.Split(words, ", ") {
		var r [2]int
		for i, s := range strings.Split(word, " to ") {
			n, err := strconv.ParseInt(s, 16, 64)
			if err != nil {
				t.Fatal(err)
			}
			r[i] = int(n)
		}
		l = append(l, r)
	}
	return l
}

// widths are those of all runes from 0 to 10ffff.
func widths(t *testing.T) []int {
	t.Helper()
	l := slices.Repeat([]int{1}, 0x110000)
	for n := range 0x20 {
		l[n] = 0
	}
	for width, words := range map[int]string{0: none, 2: two} {
		for _, r := range ends(t, words) {
			for n := r[0]; n <= r[1]; n++ {
				l[n] = width
			}
		}
	}
	return l
}

func TestWidth(t *testing.T) {
	for n, want := range widths(t) {
		if w := Width(n); w != want {
			t.Fatalf("P20.1: Width(%x): %d, not %d", n, w, want)
		}
	}
}

func TestEnds(t *testing.T) {
	for width, words := range map[int]string{0: none, 2: two} {
		for _, r := range ends(t, words) {
			for _, n := range r {
				if w := Width(n); w != width {
					t.Errorf("P20.1: Width(%x): %d, not %d", n, w, width)
				}
			}
		}
	}
	for n, want := range map[int]int{0x1f: 0, 0x20: 1, 0x7e: 1, 0x7f: 0, 0x9f: 0, 0xa0: 1, 0x2ff: 1, 0x370: 1, 0x10ff: 1, 0x1160: 1, 0x303f: 1, 0x3040: 1, 0xa4d0: 1, 0xfe10: 1, 0xfe2f: 0, 0xfe30: 2, 0x1f650: 1, 0x1f67f: 1, 0x1ffff: 1, 0x3fffe: 1, 0x10ffff: 1} {
		if w := Width(n); w != want {
			t.Errorf("P20.1: Width(%x): %d, not %d", n, w, want)
		}
	}
}

// What is no rune takes no cell, also where its lower bits are those of one.
func TestNoRunes(t *testing.T) {
	for _, n := range []int{0x110000, 0x110001, 1 << 31, 1<<31 + 'a', 1 << 32, 1<<32 + 'a', 1<<32 + 0x4e00, math.MaxInt, math.MaxInt - 0x4e00, -1, -'a', -0x4e00, -1<<32 + 'a', -1<<32 + 0x4e00, math.MinInt, math.MinInt + 'a', math.MinInt + 0x4e00} {
		if w := Width(n); w != 0 {
			t.Errorf("P20.1: Width(%x): %d, not 0", n, w)
		}
	}
}

func TestExample(t *testing.T) {
	for n, want := range map[int]int{'a': 1, 0x4e00: 2, 0x301: 0} {
		if w := Width(n); w != want {
			t.Errorf("example 1: Width(%x): %d, not %d", n, w, want)
		}
	}
}

func TestTotal(t *testing.T) {
	for i, c := range []struct {
		l    []int
		want int
	}{
		{nil, 0},
		{[]int{}, 0},
		{[]int{'a'}, 1},
		{[]int{0x4e00}, 2},
		{[]int{0x301}, 0},
		{[]int{-1, 0x110000, 7, math.MinInt, math.MaxInt}, 0},
		{[]int{'a', 0x4e00, 0x301}, 3},
		{[]int{0x301, 'a', 0x4e00, 0x4e00, -1, 'b'}, 6},
		{slices.Repeat([]int{0x4e00}, 100000), 200000},
	} {
		if n := Total(c.l); n != c.want {
			t.Errorf("P20.2: case %d: %d, not %d", i, n, c.want)
		}
	}
	room := []int{'a', 'b', 0x4e00}
	if n := Total(room[:1]); n != 1 {
		t.Errorf("P20.2: spare room: %d", n)
	}
}

func TestFit(t *testing.T) {
	l := []int{'a', 0x4e00, 0x301, 'b', 0x4e00}
	zeros := []int{0x301, 7, -1}
	for i, c := range []struct {
		l      []int
		most   int
		n, sum int
	}{
		{nil, 0, 0, 0},
		{nil, 5, 0, 0},
		{nil, -1, 0, 0},
		{[]int{}, math.MaxInt, 0, 0},
		{l, 0, 0, 0},
		{l, 1, 1, 1},
		{l, 2, 1, 1}, // the wide one does not fit, and what is behind it is not asked
		{l, 3, 3, 3}, // with the one behind it that takes nothing
		{l, 4, 4, 4},
		{l, 5, 4, 4},
		{l, 6, 5, 6},
		{l, 7, 5, 6},
		{l, math.MaxInt, 5, 6},
		{l, -1, 0, 0},
		{l, math.MinInt, 0, 0},
		{zeros, 0, 3, 0},
		{zeros, 1, 3, 0},
		{zeros, -1, 0, 0},
		{zeros, math.MinInt, 0, 0},
		{slices.Concat(zeros, l), 0, 3, 0},
		{slices.Concat(zeros, l), 1, 4, 1},
		{slices.Concat(l, zeros), 6, 8, 6},
		{slices.Concat(l, zeros), 5, 4, 4},
		{[]int{0x4e00, 'a'}, 1, 0, 0},
		{[]int{0x4e00, 'a'}, 2, 1, 2},
		{slices.Repeat([]int{0x4e00}, 100000), 99999, 49999, 99998},
	} {
		if n, sum := Fit(c.l, c.most); n != c.n || sum != c.sum {
			t.Errorf("P20.3: case %d: %d, %d, not %d, %d", i, n, sum, c.n, c.sum)
		}
	}
	room := []int{'a', 'b', 'c'}
	if n, sum := Fit(room[:1], 3); n != 1 || sum != 1 {
		t.Errorf("P20.3: spare room: %d, %d", n, sum)
	}
}

// mostThatFit tries each number of runes.
func mostThatFit(l []int, most int) int {
	best := 0
	for n := range len(l) + 1 {
		if Total(l[:n]) <= most {
			best = n
		}
	}
	return best
}

func TestWhatFollows(t *testing.T) {
	x := source(20)
	for range 3000 {
		a, b := x.runes(x.below(12)), x.runes(x.below(12))
		both := slices.Concat(a, b)
		if Total(both) != Total(a)+Total(b) {
			t.Fatalf("P20.4: %x and %x: %d, not %d and %d", a, b, Total(both), Total(a), Total(b))
		}
		most := x.below(30) - 3
		n, sum := Fit(both, most)
		if want := mostThatFit(both, most); n != want || sum != Total(both[:n]) {
			t.Fatalf("P20.3: %x, %d: %d, %d, not %d", both, most, n, sum, want)
		}
		if most >= 0 && sum > most || n < len(both) && Total(both[:n+1]) <= most {
			t.Fatalf("P20.4: %x, %d: %d, %d", both, most, n, sum)
		}
	}
}

func TestNothingChanged(t *testing.T) {
	room := []int{'a', 0x4e00, 0x301, 'b', 0x4e00}
	before := slices.Clone(room)
	for range 2 {
		if n := Total(room[:4]); n != 4 {
			t.Errorf("R6: Total: %d", n)
		}
		if n, sum := Fit(room[:4], 3); n != 3 || sum != 3 {
			t.Errorf("R6: Fit: %d, %d", n, sum)
		}
	}
	if !slices.Equal(room, before) {
		t.Errorf("R5: what was handed in is %x now", room)
	}
}
