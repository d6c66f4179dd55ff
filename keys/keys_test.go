package keys

import (
	"math"
	"slices"
	"strings"
	"testing"
)

// source makes numbers that are the same in each run.
type source uint64

func (x *source) below(n int) int {
	*x = *x*6364136223846793005 + 1442695040888963407
	return int(*x>>33) % n
}

// bytes are such as keys are made of, often begun and not ended.
func (x *source) bytes(n int) string {
	some := []string{"\x1b", "\x1b[", "\x1b[1", "\x1b[3~", "\x1b[12;4", "\x1bO", "A", "H", "F", "~", ";", "1", "3", "4", "\xc2", "\xc3\xa9", "\xe2\x82", "\xe0", "\xed", "\xf0\x9f\x98\x80", "\xf4", "\x80", "\x9f", "\xa0", "\xbf", "\xff", "\x7f", "\x00", "a"}
	var b strings.Builder
	for range n {
		if x.below(4) == 0 {
			b.WriteByte(byte(x.below(256)))
		} else {
			b.WriteString(some[x.below(len(some))])
		}
	}
	return b.String()
}

func of(kind int) Key { return Key{Kind: kind} }

// first is the document's words on a stream that is there at once: its first key, and of how many bytes (0: it is not whole).
func first(s string) (Key, int) {
	switch b := int(s[0]); {
	case b == 0x1b:
		return escapes(s)
	case b <= 0x1f:
		return Key{Ctrl, b + 96}, 1
	case b <= 0x7e:
		return Key{Rune, b}, 1
	case b == 0x7f:
		return Key{Ctrl, 'h'}, 1
	case b >= 0xc2 && b <= 0xdf:
		return many(s, 2, b-0xc0, 0x80)
	case b >= 0xe0 && b <= 0xef:
		return many(s, 3, b-0xe0, 0x800)
	case b >= 0xf0 && b <= 0xf4:
		return many(s, 4, b-0xf0, 0x10000)
	}
	return of(Bad), 1
}

func escapes(s string) (Key, int) {
	if len(s) == 1 {
		return Key{}, 0
	}
	switch b := s[1]; {
	case b == '[':
		return brackets(s)
	case b == 'O' && len(s) == 2:
		return Key{}, 0
	case b == 'O' && s[2] == 'H':
		return of(Home), 3
	case b == 'O' && s[2] == 'F':
		return of(End), 3
	case b == 'O':
		return of(Bad), 3
	case b >= 0x20 && b <= 0x7f:
		return Key{Meta, int(b)}, 2
	}
	return of(Esc), 1
}

func brackets(s string) (Key, int) {
	at := 2
	for at < len(s) && at < 6 && strings.ContainsRune("0123456789;", rune(s[at])) {
		at++
	}
	if at == len(s) {
		return Key{}, 0
	}
	at++
	names := []string{"A", "B", "C", "D", "H", "F", "3~", "1~", "4~"}
	kinds := []int{Up, Down, Right, Left, Home, End, Del, Home, End}
	if i := slices.Index(names, s[2:at]); i >= 0 {
		return of(kinds[i]), at
	}
	return of(Bad), at
}

func many(s string, size, num, least int) (Key, int) {
	for i := 1; i < size; i++ {
		if i == len(s) {
			return Key{}, 0
		}
		if s[i] < 0x80 || s[i] > 0xbf {
			return of(Bad), i
		}
		num = num*64 + int(s[i]) - 0x80
	}
	if num < least || num > 0x10ffff || num >= 0xd800 && num <= 0xdfff || num >= 0x80 && num <= 0x9f {
		return of(Bad), size
	}
	return Key{Rune, num}, size
}

// slow reads a whole stream at once: its keys, and what waits behind them.
func slow(s string) ([]Key, string) {
	var l []Key
	for s != "" {
		k, n := first(s)
		if n == 0 {
			break
		}
		l, s = append(l, k), s[n:]
	}
	return l, s
}

// rest is what Flush tells of what waits.
func rest(s string) []Key {
	switch s {
	case "":
		return nil
	case "\x1b":
		return []Key{{Kind: Esc}}
	}
	return []Key{{Kind: Bad}}
}

// told feeds a new reader, and holds its answers against want.
func told(t *testing.T, what string, s string, want []Key, waits int, end []Key) {
	t.Helper()
	r := New()
	if l := r.Feed(s); !slices.Equal(l, want) {
		t.Errorf("P17.1: %s: Feed(%q): %v, not %v", what, s, l, want)
	}
	if n := r.Waits(); n != waits {
		t.Errorf("P17.1: %s: %q: %d wait, not %d", what, s, n, waits)
	}
	if l := r.Flush(); !slices.Equal(l, end) || r.Waits() != 0 {
		t.Errorf("P17.2: %s: Flush behind %q: %v, not %v; %d wait", what, s, l, end, r.Waits())
	}
	if l := r.Flush(); len(l) > 0 || r.Waits() != 0 {
		t.Errorf("P17.2: %s: Flush again behind %q: %v", what, s, l)
	}
	if l := r.Feed("A"); !slices.Equal(l, []Key{{Rune, 'A'}}) || r.Waits() != 0 {
		t.Errorf("P17.2: %s: A behind %q and Flush: %v", what, s, l)
	}
}

// whole is told of bytes that are whole keys.
func isWhole(t *testing.T, what string, s string, want ...Key) {
	t.Helper()
	told(t, what, s, want, 0, nil)
}

// byModel is told of bytes that the plain reader reads.
func byModel(t *testing.T, what string, s string) {
	t.Helper()
	want, waits := slow(s)
	told(t, what, s, want, len(waits), rest(waits))
}

func TestKinds(t *testing.T) {
	for i, kind := range []int{Rune, Ctrl, Meta, Up, Down, Right, Left, Home, End, Del, Esc, Bad} {
		if kind != i+1 {
			t.Errorf("P17.1: the kind %d: %d", i+1, kind)
		}
	}
}

func TestExample(t *testing.T) {
	isWhole(t, "example 1", "\x01a\x1b[A", Key{Ctrl, 'a'}, Key{Rune, 'a'}, of(Up))
}

func TestOneByte(t *testing.T) {
	for b := range 256 {
		s := string([]byte{byte(b)})
		switch {
		case b == 0x1b:
			told(t, "ESC", s, nil, 1, []Key{{Kind: Esc}})
		case b < 0x20:
			isWhole(t, "Ctrl", s, Key{Ctrl, 96 + b})
		case b < 0x7f:
			isWhole(t, "Rune", s, Key{Rune, b})
		case b == 0x7f:
			isWhole(t, "7f", s, Key{Ctrl, 104})
		case b < 0xc2 || b > 0xf4:
			isWhole(t, "none", s, of(Bad))
		default:
			told(t, "a rune's first byte", s, nil, 1, []Key{{Kind: Bad}})
		}
	}
}

func TestEscape(t *testing.T) {
	for b := range 256 {
		s := "\x1b" + string([]byte{byte(b)})
		switch {
		case b == '[', b == 'O':
			told(t, "ESC and more", s, nil, 2, []Key{{Kind: Bad}})
		case b == 0x1b:
			told(t, "ESC ESC", s, []Key{{Kind: Esc}}, 1, []Key{{Kind: Esc}})
		case b >= 0x20 && b <= 0x7f:
			isWhole(t, "Meta", s, Key{Meta, b})
		case b < 0x20:
			isWhole(t, "ESC and Ctrl", s, of(Esc), Key{Ctrl, b + 96})
		case b < 0xc2 || b > 0xf4:
			isWhole(t, "ESC and none", s, of(Esc), of(Bad))
		default:
			told(t, "ESC and a rune's first byte", s, []Key{{Kind: Esc}}, 1, []Key{{Kind: Bad}})
		}
	}
	isWhole(t, "ESC and a rune", "\x1b\xc3\xa9", of(Esc), Key{Rune, 0xe9})
	isWhole(t, "ESC ESC [ A", "\x1b\x1b[A", of(Esc), of(Up))
	isWhole(t, "ESC ESC O F", "\x1b\x1bOF", of(Esc), of(End))
}

func TestBrackets(t *testing.T) {
	names := map[string]int{"A": Up, "B": Down, "C": Right, "D": Left, "H": Home, "F": End, "3~": Del, "1~": Home, "4~": End}
	for _, codes := range []string{"", "0", "1", "2", "3", "4", "7", "9", ";", "03", "33", "3;", ";3", "11", "1;", "44", "123", "3;3", "1234", ";;;;", "9999", "0003"} {
		for b := range 256 {
			end := codes + string([]byte{byte(b)})
			s := "\x1b[" + end
			kind, named := names[end]
			switch {
			case named:
				isWhole(t, "ESC [", s, of(kind))
			case len(codes) < 4 && (b >= '0' && b <= '9' || b == ';'):
				told(t, "ESC [ and codes", s, nil, len(s), []Key{{Kind: Bad}})
			default:
				isWhole(t, "ESC [ and what is none", s, of(Bad))
			}
		}
	}
	isWhole(t, "a fifth code ends it", "\x1b[12345A", of(Bad), Key{Rune, 'A'})
	isWhole(t, "a fifth code ends it", "\x1b[;;;;;~", of(Bad), Key{Rune, '~'})
	isWhole(t, "ESC ends it, and begins none", "\x1b[\x1b[A", of(Bad), Key{Rune, '['}, Key{Rune, 'A'})
	isWhole(t, "ESC ends it, and begins none", "\x1b[1\x1bf", of(Bad), Key{Rune, 'f'})
}

func TestLetters(t *testing.T) {
	for b := range 256 {
		s := "\x1bO" + string([]byte{byte(b)})
		switch b {
		case 'H':
			isWhole(t, "ESC O", s, of(Home))
		case 'F':
			isWhole(t, "ESC O", s, of(End))
		default:
			isWhole(t, "ESC O and what is none", s, of(Bad))
		}
	}
	isWhole(t, "ESC ends it, and begins none", "\x1bO\x1bf", of(Bad), Key{Rune, 'f'})
}

// bytesOf are as many bytes as are asked, whether a rune of that number has so many or not.
func bytesOf(num, size int) string {
	heads := []int{0, 0, 0xc0, 0xe0, 0xf0}
	b := make([]byte, size)
	for i := size - 1; i > 0; i-- {
		b[i] = byte(0x80 + num%64)
		num /= 64
	}
	b[0] = byte(heads[size] + num)
	return string(b)
}

func TestRunes(t *testing.T) {
	for size, to := range map[int]int{2: 0x800, 3: 0x10000, 4: 0x140000} {
		var least int
		switch size {
		case 2:
			least = 0x80
		case 3:
			least = 0x800
		case 4:
			least = 0x10000
		}
		from := 0
		if size == 2 {
			from = 0x80 // c0 and c1 begin none
		}
		r := New()
		for num := from; num < to; num++ {
			want := Key{Rune, num}
			if num < least || num > 0x10ffff || num >= 0xd800 && num <= 0xdfff || num <= 0x9f {
				want = of(Bad)
			}
			s := bytesOf(num, size)
			if l := r.Feed(s); len(l) != 1 || l[0] != want || r.Waits() != 0 {
				t.Fatalf("P17.1: %x of %d bytes: %v, not %v", num, size, l, want)
			}
		}
	}
	for _, num := range []int{0xa0, 0xe9, 0x7ff, 0x800, 0x20ac, 0xd7ff, 0xe000, 0xfffd, 0xffff, 0x10000, 0x1f600, 0x10ffff} {
		isWhole(t, "a rune as the language writes it", string(rune(num)), Key{Rune, num})
	}
	isWhole(t, "c2 80 to c2 9f", "\xc2\x80\xc2\x9f\xc2\xa0", of(Bad), of(Bad), Key{Rune, 0xa0})
}

// A byte that is none of a rune's ends it, and begins a key of its own.
func TestRunesThatEnd(t *testing.T) {
	for _, head := range []string{"\xc2", "\xc3", "\xdf", "\xe0", "\xe2\x82", "\xed", "\xed\xa0", "\xef\xbf", "\xf0", "\xf0\x9f", "\xf0\x9f\x98", "\xf4", "\xf4\x90", "\xf4\x90\x80"} {
		told(t, "a rune that is not whole", head, nil, len(head), []Key{{Kind: Bad}})
		for b := range 256 {
			byModel(t, "a rune that ends", head+string([]byte{byte(b)}))
		}
	}
	isWhole(t, "a rune that ends", "\xe2\x82a", of(Bad), Key{Rune, 'a'})
	isWhole(t, "a rune that ends", "\xf0\x9f\x98\x1b[A", of(Bad), of(Up))
	isWhole(t, "a rune that ends", "\xc3\xc3\xa9", of(Bad), Key{Rune, 0xe9})
	isWhole(t, "a rune that ends", "\xf0\xff", of(Bad), of(Bad))
	told(t, "a rune that ends", "\xc3\x1b", []Key{{Kind: Bad}}, 1, []Key{{Kind: Esc}})
}

func TestWaits(t *testing.T) {
	for _, s := range []string{"\x1b[1234", "\x1b[;;;;", "\x1bO", "\xf4\x8f\xbf", "\xef\xbf", "\xdf"} {
		r := New()
		for i := range len(s) {
			if l := r.Feed(s[i : i+1]); len(l) > 0 || r.Waits() != i+1 {
				t.Errorf("P17.1: %q: behind %d bytes %v, %d wait", s, i+1, l, r.Waits())
			}
		}
		if l := r.Feed(""); len(l) > 0 || r.Waits() != len(s) {
			t.Errorf("P17.1: %q and nothing: %v, %d wait", s, l, r.Waits())
		}
	}
	r := New()
	if l := r.Feed("\x1b[" + strings.Repeat("1", 100000)); len(l) != 100000-4 || r.Waits() != 0 {
		t.Errorf("P17.1: many codes: %d keys, %d wait", len(l), r.Waits())
	}
	for i := range 1000 {
		if r.Feed("\x1b[1;"[i%4 : i%4+1]); r.Waits() > 7 {
			t.Errorf("P17.1: %d wait", r.Waits())
		}
	}
}

// Flush tells a key, and the bytes behind it begin another one.
func TestFlush(t *testing.T) {
	r := New()
	if l := r.Flush(); len(l) > 0 {
		t.Errorf("P17.2: Flush of a new one: %v", l)
	}
	for i, c := range []struct {
		s, then string
		end     Key
		behind  []Key
	}{
		{"\x1b", "[A", of(Esc), []Key{{Rune, '['}, {Rune, 'A'}}},
		{"\x1b[", "A", of(Bad), []Key{{Rune, 'A'}}},
		{"\x1b[3", "~", of(Bad), []Key{{Rune, '~'}}},
		{"\x1bO", "H", of(Bad), []Key{{Rune, 'H'}}},
		{"\xc3", "\xa9", of(Bad), []Key{{Kind: Bad}}},
		{"\xf0\x9f\x98", "\x80", of(Bad), []Key{{Kind: Bad}}},
		{"\x1b\x1b", "f", of(Esc), []Key{{Rune, 'f'}}},
	} {
		r := New()
		r.Feed(c.s)
		if l := r.Flush(); !slices.Equal(l, []Key{c.end}) || r.Waits() != 0 {
			t.Errorf("P17.2: case %d: %v", i, l)
		}
		if l := r.Feed(c.then); !slices.Equal(l, c.behind) {
			t.Errorf("P17.2: case %d: %v behind it", i, l)
		}
	}
}

// However bytes are cut, the keys are the same.
func TestCuts(t *testing.T) {
	x := source(17)
	for round := range 3000 {
		s := x.bytes(1 + x.below(40))
		want, waits := slow(s)
		if len(want) > len(s) {
			t.Fatalf("P17.3: %q: %d keys", s, len(want))
		}
		byModel(t, "by chance", s)
		r := New()
		var got []Key
		for from := 0; from < len(s); {
			to := from + x.below(4)
			if round%3 == 0 {
				to = from + 1
			}
			to = min(to, len(s))
			got = append(got, r.Feed(s[from:to])...)
			_, w := slow(s[:to])
			if r.Waits() != len(w) {
				t.Fatalf("P17.1: %q: %d wait behind %d bytes", s, r.Waits(), to)
			}
			from = to
		}
		if !slices.Equal(got, want) || r.Waits() != len(waits) {
			t.Fatalf("P17.3: %q: %v, not %v", s, got, want)
		}
	}
}

// Each text of few bytes, of those that the words speak of.
func TestAllShort(t *testing.T) {
	some := []byte{0, 0x1b, '[', 'O', 'A', 'H', '~', '1', '3', ';', 0x7f, 0x80, 0x90, 0xa0, 0xc1, 0xc2, 0xe0, 0xed, 0xf0, 0xf4, 0xff}
	var all func(s string, n int)
	all = func(s string, n int) {
		byModel(t, "few bytes", s)
		if n == 0 {
			return
		}
		for _, b := range some {
			all(s+string([]byte{b}), n-1)
		}
	}
	all("", 3)
	for _, head := range []string{"\x1b[1", "\x1b[123", "\xf0\x90", "\xf4\x8f"} {
		all(head, 2)
	}
}

func TestNil(t *testing.T) {
	var r *Reader
	if l := r.Feed("abc\x1b"); len(l) > 0 {
		t.Errorf("P17.1: Feed of nil: %v", l)
	}
	if l := r.Flush(); len(l) > 0 {
		t.Errorf("P17.2: Flush of nil: %v", l)
	}
	if n := r.Waits(); n != 0 {
		t.Errorf("P17.1: Waits of nil: %d", n)
	}
	if New() == nil {
		t.Errorf("P17.1: New: nil")
	}
}

// A reader that was not made by New panics no more than one that was.
func TestZero(t *testing.T) {
	r := &Reader{}
	if l := r.Flush(); len(l) > 0 || r.Waits() != 0 {
		t.Errorf("R1: Flush: %v", l)
	}
	if l := r.Feed("a\x1b[B\x1b"); !slices.Equal(l, []Key{{Rune, 'a'}, {Kind: Down}}) || r.Waits() != 1 {
		t.Errorf("R1: Feed: %v", l)
	}
}

func TestTwoReaders(t *testing.T) {
	a, b := New(), New()
	a.Feed("\x1b[")
	if l := b.Feed("A"); !slices.Equal(l, []Key{{Rune, 'A'}}) {
		t.Errorf("R6: the other one: %v", l)
	}
	if l := a.Feed("A"); !slices.Equal(l, []Key{{Kind: Up}}) {
		t.Errorf("R6: the first one: %v", l)
	}
	a.Feed("\xc3")
	b.Feed("\x1b")
	if a.Flush(); b.Waits() != 1 {
		t.Errorf("R6: %d wait", b.Waits())
	}
}

// What was answered is the caller's: whatever is written to it, its spare room too, the reader goes on as it would.
func TestMemory(t *testing.T) {
	x := source(5)
	r, plain := New(), New()
	spoil := func(l []Key) {
		l = l[:cap(l)]
		for i := range l {
			l[i] = Key{math.MaxInt, math.MinInt}
		}
	}
	var kept, want []Key
	for range 2000 {
		s := x.bytes(1 + x.below(5))
		got, told := r.Feed(s), plain.Feed(s)
		if !slices.Equal(got, told) || !slices.Equal(kept, want) || r.Waits() != plain.Waits() {
			t.Fatalf("R5: %q: %v, not %v; kept %v, not %v", s, got, told, kept, want)
		}
		if x.below(4) == 0 {
			end, told := r.Flush(), plain.Flush()
			if !slices.Equal(end, told) {
				t.Fatalf("R5: Flush: %v, not %v", end, told)
			}
			spoil(end)
		}
		if x.below(2) == 0 {
			spoil(got)
			continue
		}
		kept, want = got, slices.Clone(got)
	}
}

func TestSameAgain(t *testing.T) {
	x := source(6)
	a, b := New(), New()
	for range 1000 {
		s := x.bytes(x.below(6))
		if k, l := a.Feed(s), b.Feed(s); !slices.Equal(k, l) || a.Waits() != b.Waits() {
			t.Fatalf("R6: %q: %v, %v", s, k, l)
		}
		if x.below(5) > 0 {
			continue
		}
		if k, l := a.Flush(), b.Flush(); !slices.Equal(k, l) {
			t.Fatalf("R6: Flush: %v, %v", k, l)
		}
	}
}

func TestLong(t *testing.T) {
	s := strings.Repeat("a\x1b[A\xe2\x82\xac\x1b[3~", 100000)
	l := New().Feed(s)
	if len(l) != 400000 || l[399997] != of(Up) || l[399998] != (Key{Rune, 0x20ac}) || l[399999] != of(Del) {
		t.Errorf("P17.1: %d keys", len(l))
	}
}
