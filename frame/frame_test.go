package frame

import (
	"bytes"
	"slices"
	"strings"
	"testing"
	"unsafe"

	"duet/api"
	"duet/crcs"
)

// source makes numbers that are the same in each run.
type source uint64

func (x *source) below(n int) int {
	*x = *x*6364136223846793005 + 1442695040888963407
	return int(*x>>33) % n
}

// text has many marks, signs and what they are stuffed to.
func (x *source) text(n int) string {
	b := make([]byte, n)
	for i := range b {
		b[i] = byte(x.below(256))
		if x.below(2) == 0 {
			b[i] = "\x7e\x7d\x5e\x5d\x00\x5c\x5f\xff"[x.below(8)]
		}
	}
	return string(b)
}

// stuffed says the document's words by other means than Pack: the signs first, so that those of marks are left alone.
func stuffed(s string) string {
	return strings.ReplaceAll(strings.ReplaceAll(s, "\x7d", "\x7d\x5d"), "\x7e", "\x7d\x5e")
}

func framed(s string) string { return "\x7e" + stuffed(crcs.Seal(s)) + "\x7e" }

// sealedIn looks for the text of a piece by stuffing again what it might be.
func sealedIn(piece string) (string, bool) {
	sealed := strings.ReplaceAll(strings.ReplaceAll(piece, "\x7d\x5e", "\x7e"), "\x7d\x5d", "\x7d")
	if len(sealed) < 3 || len(sealed) > 2003 {
		return "", false
	}
	text := sealed[:len(sealed)-3]
	return text, stuffed(crcs.Seal(text)) == piece
}

// slow reads a whole stream at once.
func slow(stream string) (told []string, bad int) {
	pieces := strings.Split(stream, "\x7e")
	for _, piece := range pieces[:len(pieces)-1] {
		if piece == "" {
			continue
		}
		if text, ok := sealedIn(piece); ok {
			told = append(told, text)
		} else {
			bad++
		}
	}
	return told, bad
}

func mustPack(t *testing.T, s string) string {
	t.Helper()
	f, e := Pack(s)
	if e != api.OK {
		t.Fatalf("P3.1: Pack of %d bytes: %d", len(s), e)
	}
	return f
}

// reads feeds a new reader and holds what it tells against want.
func reads(t *testing.T, what string, feeds []string, want []string, bad int) {
	t.Helper()
	r := New()
	var got []string
	for _, s := range feeds {
		got = append(got, r.Feed(s)...)
	}
	if !slices.Equal(got, want) || r.Bad() != bad {
		t.Errorf("%+q: %q, %d bad; not %q, %d", what, got, r.Bad(), want, bad)
	}
}

func TestPack(t *testing.T) {
	for s, want := range map[string]string{
		"":          "\x7e\xb7\x04\xce\x7e",
		"123456789": "\x7e123456789\x21\xcf\x02\x7e",
	} {
		if f := mustPack(t, s); f != want {
			t.Errorf("P3.1: Pack(%q): %x", s, f)
		}
	}
	for b := range 256 {
		s := string([]byte{byte(b)})
		if f := mustPack(t, s); f != framed(s) {
			t.Errorf("P3.1: Pack(%x): %x", s, f)
		}
	}
	x := source(1)
	for n := range 400 {
		s := x.text(n)
		if f := mustPack(t, s); f != framed(s) {
			t.Errorf("P3.1: Pack(%x): %x", s, f)
		}
		if f := mustPack(t, s); f != framed(s) {
			t.Errorf("R6: Pack(%x) again: %x", s, f)
		}
	}
}

// The sum is stuffed as the text is.
func TestPackStuffsTheSum(t *testing.T) {
	var marks, signs int
	for n := 0; marks < 3 || signs < 3; n++ {
		s := string([]byte{byte(n >> 16), byte(n >> 8), byte(n)})
		sum := crcs.Seal(s)[3:]
		if !strings.ContainsAny(sum, "\x7e\x7d") {
			continue
		}
		marks += strings.Count(sum, "\x7e")
		signs += strings.Count(sum, "\x7d")
		f := mustPack(t, s)
		if !strings.HasSuffix(f, stuffed(sum)+"\x7e") {
			t.Errorf("P3.1: Pack(%x): %x", s, f)
		}
		reads(t, "P3.3: a sum with a mark or a sign", []string{f}, []string{s}, 0)
	}
}

func TestPackLong(t *testing.T) {
	for _, b := range []string{"a", "\x7e", "\x7d", "\x00"} {
		for _, n := range []int{1999, 2000} {
			s := strings.Repeat(b, n)
			if f := mustPack(t, s); f != framed(s) {
				t.Errorf("P3.1: %d times %x", n, b)
			}
			reads(t, "P3.2: a long text", []string{framed(s)}, []string{s}, 0)
		}
		for _, n := range []int{2001, 2003, 4000, 100000} {
			if f, e := Pack(strings.Repeat(b, n)); f != "" || e != api.ErrArg {
				t.Errorf("P3.1, R3: %d times %x: %d bytes, %d", n, b, len(f), e)
			}
		}
	}
}

func TestFeedPieces(t *testing.T) {
	for s, bad := range map[string]int{
		"": 0, "a": 0, "\x7d": 0, "\x7e": 0, "\x7e\x7e\x7e": 0,
		"\x7ea": 0, "a\x7e": 1, "ab\x7e": 1, "abc\x7e": 1, "abcd\x7e": 1,
		"\xb7\x7e": 1, "\xb7\x04\x7e": 1, "\x04\xce\x7e": 1, "\xb7\x04\xcf\x7e": 1,
		"\x7d\x7e": 1, "\x7d\x7d\x7e": 1, "\x7d\x5e\x7e": 1, "\x7d\x5d\x7e": 1,
		"a\x7e\x7eb\x7ec": 2, "\x7da\x7e\x7d\x5e\x7e": 2,
	} {
		reads(t, "P3.2: "+s, []string{s}, nil, bad)
	}
	reads(t, "P3.2: the empty text, with no mark ahead of it", []string{"\xb7\x04\xce\x7e"}, []string{""}, 0)
	reads(t, "P3.2: not ended", []string{"\x7e\xb7\x04\xce"}, nil, 0)
}

// Of all pieces that are whole this one has the most bytes: each of the text and of its sum is a mark or a sign.
func TestFeedLongestPiece(t *testing.T) {
	s := strings.Repeat("~", 1976) + "~}}~~}~~}~}~~}}~}}}}~~~~"
	f := mustPack(t, s)
	if len(f) != 4006+2 {
		t.Fatalf("P3.1: %d bytes", len(f))
	}
	reads(t, "P3.2: the longest piece", []string{f}, []string{s}, 0)
	reads(t, "P3.2: the longest piece and one byte", []string{"a" + f[1:], f}, []string{s}, 1)
}

// What a sign may not stand ahead of, spoils what would be whole without it.
func TestFeedSigns(t *testing.T) {
	sum := crcs.Seal("ab")
	for b := range 256 {
		c := string([]byte{byte(b)})
		if c == "\x7e" {
			continue
		}
		end := stuffed(crcs.Seal(c)[1:]) + "\x7e"
		reads(t, "P3.2: a sign ahead of "+c, []string{"\x7d" + c + end}, nil, 1)
		for at := range len(sum) + 1 {
			s := sum[:at] + "\x7d" + c + sum[at:] + "\x7e"
			reads(t, "P3.2: a sign and "+c+" put in", []string{s}, nil, 1)
		}
	}
	for _, s := range []string{sum + "\x7d", "\x7d" + sum, "a\x7db" + sum[2:], "a\x7db\x5e" + sum[2:], "\x7d\x41b" + sum[2:], "\x7d\x7d\x5eb" + sum[2:]} {
		reads(t, "P3.2: a sign alone", []string{s + "\x7e"}, nil, 1)
	}
	pairs := stuffed(crcs.Seal("\x7ea\x7d")) + "\x7e"
	for b := range 256 {
		c := string([]byte{byte(b)})
		for at := range len(pairs) {
			for _, in := range []string{c, "\x7d" + c, c + "\x7d"} {
				s := pairs[:at] + in + pairs[at:]
				want, bad := slow(s)
				reads(t, "P3.2: "+in+" put in", []string{s}, want, bad)
			}
		}
	}
	for text, piece := range map[string]string{"\x7e": "\x7d\x5e", "\x7d": "\x7d\x5d", "\x7d\x5e": "\x7d\x5d\x5e", "\x7e\x7d": "\x7d\x5e\x7d\x5d"} {
		sum := stuffed(crcs.Seal(text)[len(text):])
		reads(t, "P3.2: "+text, []string{piece + sum + "\x7e"}, []string{text}, 0)
	}
	sealed := crcs.Seal("\x7d\x5e")
	reads(t, "P3.2: a sign that is not stuffed", []string{sealed + "\x7e"}, nil, 1)
}

// A text that is too long is none, though it is sealed; what is behind 5000 bytes of a piece is left out.
func TestFeedLong(t *testing.T) {
	good := framed("good")
	for _, b := range []string{"a", "\x7e", "\x7d"} {
		for _, n := range []int{2001, 2002, 2003, 2493, 2495, 2497, 2498, 4996, 4997, 4998, 4999, 5000, 5001, 6000, 200000} {
			s := strings.Repeat(b, n)
			reads(t, "P3.2: a long piece", []string{framed(s), good}, []string{"good"}, 1)
			reads(t, "P3.2: a long piece, not sealed", []string{stuffed(s) + "\x7e" + good}, []string{"good"}, 1)
		}
	}
	for _, n := range []int{4990, 4996, 4997, 4998, 5000, 5003, 20000} {
		// Were a full piece begun anew, what is behind it would be told.
		reads(t, "P3.2: left out", []string{strings.Repeat("a", n) + good[1:]}, nil, 1)
		reads(t, "P3.2: left out", []string{strings.Repeat("\x7d", n), good[1:], good}, []string{"good"}, 1)
	}
	r := New()
	for range 100 {
		r.Feed(strings.Repeat("\x7d\x5e", 5000))
	}
	if n := cap(r.piece); n > 10000 {
		t.Errorf("P3.2: room for %d bytes is kept of a piece", n)
	}
}

func TestBad(t *testing.T) {
	r := New()
	for n := range 300 {
		if b := r.Bad(); b != n {
			t.Fatalf("P3.2: %d bad, not %d", b, n)
		}
		if l := r.Feed("bad"); len(l) != 0 || r.Bad() != n {
			t.Fatalf("P3.2: bad ahead of its mark: %q, %d", l, r.Bad())
		}
		if l := r.Feed("\x7e" + framed("good")); !slices.Equal(l, []string{"good"}) {
			t.Fatalf("P3.2: behind a bad one: %q", l)
		}
	}
}

func TestNil(t *testing.T) {
	var r *Reader
	for _, s := range []string{"", "\x7e", "bad\x7e", framed("a")} {
		if l := r.Feed(s); len(l) != 0 || r.Bad() != 0 {
			t.Errorf("P3.2, R1: nil: %q, %d", l, r.Bad())
		}
	}
	if r := New(); r == nil || r.Bad() != 0 || len(r.Feed("")) != 0 {
		t.Errorf("P3.2: New is no reader")
	}
	var zero Reader
	if l := zero.Feed(framed("a")); !slices.Equal(l, []string{"a"}) || zero.Bad() != 0 {
		t.Errorf("R1: a zero Reader: %q, %d", l, zero.Bad())
	}
	a, b := New(), New()
	a.Feed("a bad piece")
	if l := b.Feed(framed("b")); !slices.Equal(l, []string{"b"}) || b.Bad() != 0 {
		t.Errorf("R6: one reader is changed by another one: %q, %d", l, b.Bad())
	}
}

func TestCutAnywhere(t *testing.T) {
	texts := []string{"", "a", "\x7e\x7d", "\x7d\x5e\x7d\x5d", "b"}
	var stream string
	for _, s := range texts {
		stream += mustPack(t, s)
	}
	for i := range len(stream) + 1 {
		for j := i; j <= len(stream); j++ {
			reads(t, "P3.3: cut twice", []string{stream[:i], stream[i:j], stream[j:]}, texts, 0)
		}
	}
	reads(t, "P3.3: byte by byte", strings.Split(stream, ""), texts, 0)
}

func TestWhateverIsAhead(t *testing.T) {
	x := source(4)
	f := mustPack(t, "here")
	for n := range 500 {
		noise := strings.ReplaceAll(x.text(n%60), "\x7e", "")
		bad := 1
		if noise == "" {
			bad = 0
		}
		reads(t, "P3.3: "+noise+" ahead", []string{noise + f}, []string{"here"}, bad)
	}
	reads(t, "P3.3: much ahead", []string{strings.Repeat("x", 100000), f}, []string{"here"}, 1)
}

func TestSharedMarks(t *testing.T) {
	texts := []string{"a", "", "\x7e", "a", "\x7d"}
	stream := "\x7e"
	for _, s := range texts {
		stream += mustPack(t, s)[1:]
	}
	reads(t, "P3.3: shared marks", []string{stream}, texts, 0)
	reads(t, "P3.3: many marks", []string{strings.ReplaceAll(stream, "\x7e", "\x7e\x7e\x7e")}, texts, 0)
}

func TestTurnedByte(t *testing.T) {
	special := func(b byte) bool { return b == 0x7e || b == 0x7d }
	for _, texts := range [][]string{{"a", "turned \x7e\x7d one", "c"}, {"\x7d", "", "\x7e"}} {
		one, two, three := mustPack(t, texts[0]), mustPack(t, texts[1]), mustPack(t, texts[2])
		for at := range len(two) {
			if special(two[at]) {
				continue
			}
			for b := range 256 {
				if special(byte(b)) || byte(b) == two[at] {
					continue
				}
				s := []byte(two)
				s[at] = byte(b)
				reads(t, "P3.3: a byte is turned", []string{one + string(s) + three}, []string{texts[0], texts[2]}, 1)
			}
		}
	}
}

func TestStreams(t *testing.T) {
	x := source(5)
	for range 3000 {
		var stream strings.Builder
		for range x.below(8) {
			f := framed(x.text(x.below(20)))
			switch x.below(4) {
			case 0:
				f = x.text(x.below(12))
			case 1:
				f = f[x.below(len(f)):]
			}
			stream.WriteString(f)
		}
		s := stream.String()
		want, bad := slow(s)
		var feeds []string
		for s != "" {
			n := 1 + x.below(len(s))
			feeds = append(feeds, s[:n], "")
			s = s[n:]
		}
		reads(t, "P3.2: a stream", feeds, want, bad)
	}
}

func TestNewMemory(t *testing.T) {
	text := strings.Repeat("kept", 10)
	stream := []byte(framed(text) + framed(text) + "\x7eab")
	before := bytes.Clone(stream)
	fed := unsafe.String(&stream[0], len(stream))
	r := New()
	got := r.Feed(fed)
	if !bytes.Equal(stream, before) {
		t.Errorf("R5: what was fed is changed")
	}
	clear(stream)
	if !slices.Equal(got, []string{text, text}) {
		t.Errorf("R5: what is told was fed: %q", got)
	}
	sealed := crcs.Seal("abc")
	if l := r.Feed(sealed[2:] + "\x7e"); !slices.Equal(l, []string{"abc"}) {
		t.Errorf("R5: a piece is kept as it was fed: %q", l)
	}
	if unsafe.StringData(got[0]) == unsafe.StringData(got[1]) {
		t.Errorf("R5: two texts share memory")
	}
	first := r.Feed(framed("1"))
	spare := first[:cap(first)]
	for i := range spare {
		spare[i] = "changed"
	}
	if l := r.Feed(framed("2")); !slices.Equal(l, []string{"2"}) || first[0] != "changed" {
		t.Errorf("R5: two answers share memory: %q, %q", first, l)
	}
}
