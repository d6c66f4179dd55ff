package pack

import (
	"math"
	"slices"
	"strings"
	"testing"
	"unsafe"

	"duet/api"
)

// edges are the numbers at which a number's bytes become more, with those beside them.
var edges = []int{0, 1, 127, 128, 246, 247, 248, 249, 254, 255, 256, 257, 300, 65534, 65535, 65536, 65537, 1<<24 - 1, 1 << 24, 1<<24 + 1, 1<<31 - 1, 1 << 31, 1<<32 - 2, 1<<32 - 1}

var misfits = []int{math.MinInt, -1 << 32, -256, -1, 1 << 32, 1<<32 + 1, 1 << 40, math.MaxInt}

// plain writes a number as the document's words say it, by another way than the package's.
func plain(n int) string {
	if n < 248 {
		return string([]byte{byte(n)})
	}
	var b []byte
	for ; n > 0; n /= 256 {
		b = append([]byte{byte(n % 256)}, b...)
	}
	return string(append([]byte{byte(247 + len(b))}, b...))
}

// numbers are some of each length, and the edges.
func numbers() []int {
	l := slices.Clone(edges)
	for n := range 70000 {
		l = append(l, n)
	}
	x := uint64(1)
	for range 20000 {
		x = x*6364136223846793005 + 1442695040888963407
		l = append(l, int(x>>32), int(x>>40))
	}
	return l
}

// texts calls f with all texts of at most that many of the bytes of letters.
func texts(letters string, most int, f func(string)) {
	var grow func(string)
	grow = func(s string) {
		f(s)
		for i := 0; len(s) < most && i < len(letters); i++ {
			grow(s + letters[i:i+1])
		}
	}
	grow("")
}

func shares(a, b string) bool {
	if a == "" || b == "" {
		return false
	}
	p, q := uintptr(unsafe.Pointer(unsafe.StringData(a))), uintptr(unsafe.Pointer(unsafe.StringData(b)))
	return p < q+uintptr(len(b)) && q < p+uintptr(len(a))
}

func TestNum(t *testing.T) {
	if s, e := Num(300); s != "\xf9\x01\x2c" || e != api.OK {
		t.Errorf("P1.1, example 1: %x, %d", s, e)
	}
	for _, n := range numbers() {
		if s, e := Num(n); s != plain(n) || e != api.OK {
			t.Fatalf("P1.1: Num(%d): %x, %d", n, s, e)
		}
	}
	for _, n := range misfits {
		if s, e := Num(n); s != "" || e != api.ErrArg {
			t.Errorf("P1.1, R3: Num(%d): %x, %d", n, s, e)
		}
	}
}

func TestTake(t *testing.T) {
	for _, n := range numbers() {
		for _, behind := range []string{"", "\x00", "\xff\xff"} {
			if m, rest, e := Take(plain(n) + behind); m != n || rest != behind || e != api.OK {
				t.Fatalf("P1.1: Take of %d: %d, %x, %d", n, m, rest, e)
			}
		}
	}
}

func TestTakeWrong(t *testing.T) {
	for _, c := range []struct {
		s string
		e api.Errno
	}{
		{"", api.ErrCut},
		{"\xf8", api.ErrCut}, {"\xf9", api.ErrCut}, {"\xf9\x01", api.ErrCut},
		{"\xfa\x01\x00", api.ErrCut}, {"\xfb", api.ErrCut}, {"\xfb\x01\x00\x00", api.ErrCut},
		// above 251 is told ahead of an end that is too early
		{"\xfc", api.ErrForm}, {"\xfd", api.ErrForm}, {"\xfe", api.ErrForm}, {"\xff", api.ErrForm},
		{"\xfc\x01\x00\x00\x00\x00", api.ErrForm}, {"\xff\x01\x00\x00\x00\x00\x00\x00\x00\x00", api.ErrForm},
		// an end that is too early is told ahead of other bytes
		{"\xf9\x00", api.ErrCut}, {"\xfa\x00\x00", api.ErrCut}, {"\xfb\x00\x00\x00", api.ErrCut},
		{"\xf8\x00", api.ErrForm}, {"\xf8\xf7", api.ErrForm},
		{"\xf9\x00\x00", api.ErrForm}, {"\xf9\x00\xff", api.ErrForm},
		{"\xfa\x00\x01\x00", api.ErrForm}, {"\xfa\x00\xff\xff", api.ErrForm},
		{"\xfb\x00\x00\x00\x00", api.ErrForm}, {"\xfb\x00\xff\xff\xff", api.ErrForm}, {"\xfb\x00\xff\xff\xffx", api.ErrForm},
	} {
		if n, rest, e := Take(c.s); n != 0 || rest != "" || e != c.e {
			t.Errorf("P1.1, R2, R3: Take(%x): %d, %x, %d; not %d", c.s, n, rest, e, c.e)
		}
	}
}

func TestText(t *testing.T) {
	for _, n := range []int{0, 1, 2, 247, 248, 255, 256, 300, 65534, 65535} {
		u := strings.Repeat("\xfe", n)
		s, e := Text(u)
		if s != plain(n)+u || e != api.OK {
			t.Errorf("P1.2: Text of %d bytes: %d bytes, %d", n, len(s), e)
		}
		for _, behind := range []string{"", "\x00", "\xff\xfe"} {
			if v, rest, e := Cut(s + behind); v != u || rest != behind || e != api.OK {
				t.Errorf("P1.2, P1.4: Cut of %d bytes: %d bytes, %x, %d", n, len(v), rest, e)
			}
		}
	}
	for _, n := range []int{65536, 65537, 1 << 20} {
		if s, e := Text(strings.Repeat("a", n)); s != "" || e != api.ErrArg {
			t.Errorf("P1.2: Text of %d bytes: %d bytes, %d", n, len(s), e)
		}
	}
}

func TestCutWrong(t *testing.T) {
	for _, c := range []struct {
		s string
		e api.Errno
	}{
		{"", api.ErrCut}, {"\xf8", api.ErrCut}, {"\xfc", api.ErrForm}, {"\xf8\x05abcde", api.ErrForm},
		{"\x01", api.ErrCut}, {"\x03ab", api.ErrCut}, {"\xf9\xff\xffab", api.ErrCut},
		{"\xf9\xff\xff" + strings.Repeat("a", 65534), api.ErrCut},
		// above 65535 is told ahead of too few bytes, and though there are enough
		{"\xfa\x01\x00\x00", api.ErrForm}, {"\xfb\xff\xff\xff\xff", api.ErrForm},
		{"\xfa\x01\x00\x00" + strings.Repeat("a", 65536), api.ErrForm},
	} {
		if u, rest, e := Cut(c.s); u != "" || rest != "" || e != c.e {
			t.Errorf("P1.2, R2, R3: Cut(%.20x): %x, %x, %d; not %d", c.s, u, rest, e, c.e)
		}
	}
}

func TestList(t *testing.T) {
	for _, l := range [][]int{nil, {}, {0}, {1, 300}, edges, make([]int, 247), make([]int, 248), make([]int, 999), slices.Repeat([]int{1<<32 - 1}, 1000)} {
		want := plain(len(l))
		for _, n := range l {
			want += plain(n)
		}
		given := slices.Clone(l)
		s, e := List(l)
		if s != want || e != api.OK || !slices.Equal(l, given) {
			t.Errorf("P1.3, R5: List of %d: %.40x, %d", len(l), s, e)
		}
		for _, behind := range []string{"", "\x00", "\xff\xfe"} {
			if m, rest, e := Each(s + behind); !slices.Equal(m, l) || rest != behind || e != api.OK {
				t.Errorf("P1.3, P1.4: Each of %d: %v, %x, %d", len(l), m, rest, e)
			}
		}
	}
	for _, n := range misfits {
		for _, l := range [][]int{{n}, {n, 0, 0}, {0, n, 0}, {0, 0, n}} {
			if s, e := List(l); s != "" || e != api.ErrArg {
				t.Errorf("P1.3, R3: List(%v): %x, %d", l, s, e)
			}
		}
	}
	for _, n := range []int{1001, 1002, 70000} {
		if s, e := List(make([]int, n)); s != "" || e != api.ErrArg {
			t.Errorf("P1.3: List of %d: %d bytes, %d", n, len(s), e)
		}
	}
}

func TestEachWrong(t *testing.T) {
	for _, c := range []struct {
		s string
		e api.Errno
	}{
		{"", api.ErrCut}, {"\xf9\x03", api.ErrCut}, {"\xfc", api.ErrForm}, {"\xf8\x01\x00", api.ErrForm},
		// above 1000 is told ahead of what the numbers are
		{"\xf9\x03\xe9", api.ErrForm}, {"\xfb\xff\xff\xff\xff", api.ErrForm},
		{"\xf9\x03\xe9" + strings.Repeat("\x00", 1001), api.ErrForm},
		{"\xf9\x03\xe8" + strings.Repeat("\x00", 999), api.ErrCut},
		{"\x01", api.ErrCut}, {"\x02\x01", api.ErrCut}, {"\x02\x01\xf9\x01", api.ErrCut},
		{"\x01\xfc", api.ErrForm}, {"\x02\x00\xf8\x00", api.ErrForm},
		// the first one that cannot be read is told
		{"\x02\xfc", api.ErrForm}, {"\x03\x00\xff", api.ErrForm}, {"\x02\x00\xf8", api.ErrCut},
	} {
		if l, rest, e := Each(c.s); len(l) != 0 || rest != "" || e != c.e {
			t.Errorf("P1.3, R2, R3: Each(%.20x): %v, %x, %d; not %d", c.s, l, rest, e, c.e)
		}
	}
}

// What is read is what was written: of all texts of some bytes, those that are read are written again.
func TestReadIsWritten(t *testing.T) {
	look := func(s string) {
		if n, rest, e := Take(s); e == api.OK {
			if w, e := Num(n); w+rest != s || e != api.OK {
				t.Errorf("P1.4: Take(%x): %d", s, n)
			}
		}
		if u, rest, e := Cut(s); e == api.OK {
			if w, e := Text(u); w+rest != s || e != api.OK {
				t.Errorf("P1.4: Cut(%x): %x", s, u)
			}
		}
		if l, rest, e := Each(s); e == api.OK {
			if w, e := List(l); w+rest != s || e != api.OK {
				t.Errorf("P1.4: Each(%x): %v", s, l)
			}
		}
	}
	every := make([]byte, 256)
	for i := range every {
		every[i] = byte(i)
	}
	texts(string(every), 2, look)
	texts("\x00\x01\x02\xf7\xf8\xf9\xfb\xfc", 6, look)
}

func TestNewMemory(t *testing.T) {
	s := "\x02" + strings.Repeat("\x01", 40)
	_, rest, _ := Take(s)
	u, behind, _ := Cut(s)
	l, after, _ := Each(s)
	for _, x := range []string{rest, u, behind, after} {
		if x == "" || shares(x, s) {
			t.Errorf("R5: %x shares memory with what was handed in", x)
		}
	}
	m, _, _ := Each(s)
	for i := range l[:cap(l)] {
		l[:cap(l)][i] = 9
	}
	if !slices.Equal(m, []int{1, 1}) {
		t.Errorf("R5: two answers share memory: %v", m)
	}
	if k, _, _ := Each(s); !slices.Equal(k, m) {
		t.Errorf("R6: the same call again: %v", k)
	}
}
