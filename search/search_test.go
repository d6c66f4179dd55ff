package search

import (
	"math"
	"slices"
	"strings"
	"testing"
	"unicode/utf8"

	"duet/mesg"
)

// source makes numbers that are the same in each run.
type source uint64

func (x *source) below(n int) int {
	*x = *x*6364136223846793005 + 1442695040888963407
	return int(*x>>33) % n
}

// lines are short, of few letters, so that queries stand in some of them.
func (x *source) lines(n int) []string {
	some := []string{"a", "b", "é", "\u20ac", "\U0001f600", "\xc3", "\ufffd"}
	l := make([]string, n)
	for i := range l {
		for range x.below(6) {
			l[i] += some[x.below(len(some))]
		}
	}
	return l
}

const nowhere = -1

// at holds what a search says of itself against what it is to say; place is nowhere, if there is none.
func at(t *testing.T, what string, s *Search, query string, place int, line string) {
	t.Helper()
	if q := s.Query(); q != query {
		t.Fatalf("P19.1: %s: Query: %q, not %q", what, q, query)
	}
	i, l, found := s.Found()
	if place == nowhere {
		if i != 0 || l != "" || found {
			t.Fatalf("P19.1, R3: %s: Found: %d, %q, %v, not nowhere", what, i, l, found)
		}
		return
	}
	if i != place || l != line || !found {
		t.Fatalf("P19.1: %s: Found: %d, %q, %v, not %d, %q", what, i, l, found, place, line)
	}
}

// typing types a text, and tells what the last Type told.
func typing(s *Search, text string) bool {
	told := false
	for _, r := range text {
		told = s.Type(int(r))
	}
	return told
}

func says(t *testing.T, what string, told, want bool) {
	t.Helper()
	if told != want {
		t.Fatalf("%s: %v, not %v", what, told, want)
	}
}

func TestExample(t *testing.T) {
	s := New([]string{"ls", "cd", "ls x"})
	says(t, "example 1: Type", s.Type('l'), true)
	at(t, "example 1", s, "l", 2, "ls x")
	says(t, "example 1: Back", s.Back(), true)
	at(t, "example 1", s, "l", 0, "ls")
}

func TestNew(t *testing.T) {
	for _, lines := range [][]string{nil, {}, {""}, {"a", "b"}} {
		s := New(lines)
		if s == nil {
			t.Fatalf("P19.1: New(%q): nil", lines)
		}
		at(t, "new", s, "", nowhere, "")
		says(t, "P19.3: Back of a new one", s.Back(), false)
		says(t, "P19.3: On of a new one", s.On(), false)
		says(t, "P19.2: Rub of a new one", s.Rub(), false)
		at(t, "new", s, "", nowhere, "")
	}
}

func TestNoLines(t *testing.T) {
	for _, s := range []*Search{New(nil), {}} {
		says(t, "P19.2: Type without lines", s.Type('a'), false)
		at(t, "no lines", s, "a", nowhere, "")
		says(t, "P19.2: Type without lines", s.Type('b'), false)
		says(t, "P19.3: Back without lines", s.Back(), false)
		says(t, "P19.3: On without lines", s.On(), false)
		at(t, "no lines", s, "ab", nowhere, "")
		says(t, "P19.2: Rub without lines", s.Rub(), false)
		at(t, "no lines", s, "a", nowhere, "")
		says(t, "P19.2: Rub without lines", s.Rub(), false)
		says(t, "P19.2: Rub without lines", s.Rub(), false)
		at(t, "no lines", s, "", nowhere, "")
	}
}

func TestNil(t *testing.T) {
	var s *Search
	for _, r := range []int{'a', 7, math.MinInt, math.MaxInt} {
		says(t, "P19.1, R1: Type of nil", s.Type(r), false)
	}
	says(t, "P19.1, R1: Rub of nil", s.Rub(), false)
	says(t, "P19.1, R1: Back of nil", s.Back(), false)
	says(t, "P19.1, R1: On of nil", s.On(), false)
	at(t, "nil", s, "", nowhere, "")
}

func TestType(t *testing.T) {
	s := New([]string{"ab", "abc", "x", "abcd", "ab", "y"})
	says(t, "P19.2: from the end", s.Type('a'), true)
	at(t, "from the end", s, "a", 4, "ab")
	says(t, "P19.2: the place's own line fits still", s.Type('b'), true)
	at(t, "it stays", s, "ab", 4, "ab")
	says(t, "P19.2: a line ahead", s.Type('c'), true)
	at(t, "a line ahead", s, "abc", 3, "abcd")
	says(t, "P19.3: Back", s.Back(), true)
	at(t, "Back", s, "abc", 1, "abc")
	says(t, "P19.2: a line behind the place is none", s.Type('d'), false)
	at(t, "none ahead", s, "abcd", nowhere, "")
	says(t, "P19.3: Back of none", s.Back(), false)
	says(t, "P19.3: On of none", s.On(), false)
	at(t, "none ahead", s, "abcd", nowhere, "")
}

// Where there is no place, the end is where it is looked from: also if there was a place once.
func TestTypeFromTheEndAgain(t *testing.T) {
	s := New([]string{"ab", "c", "abxy", "z"})
	typing(s, "ab")
	says(t, "P19.3: Back", s.Back(), true)
	at(t, "Back", s, "ab", 0, "ab")
	says(t, "P19.2: none", s.Type('x'), false)
	at(t, "none", s, "abx", nowhere, "")
	says(t, "P19.2: from the end again", s.Type('y'), true)
	at(t, "from the end again", s, "abxy", 2, "abxy")
}

func TestTypeWhatMayNotStand(t *testing.T) {
	s := New([]string{"", "ab\x07", "ab", "a\x00\x7f\ufffd"})
	for _, r := range []int{7, 0, 31, -1, 127, 0x80, 0x9f, 0xd800, 0xdfff, 0x110000, 1<<32 + 'a', -1<<32 + 'a', math.MaxInt, math.MinInt} {
		says(t, "P19.2: Type of what may not stand", s.Type(r), false)
		at(t, "nothing is typed", s, "", nowhere, "")
	}
	typing(s, "ab")
	at(t, "ab", s, "ab", 2, "ab")
	for r := -5; r < 0x300; r++ {
		if mesg.Rune(r) {
			continue
		}
		says(t, "P19.2: Type of what may not stand", s.Type(r), false)
		at(t, "the place stays", s, "ab", 2, "ab")
	}
	for _, r := range []int{' ', '~', 0xa0, 0xd7ff, 0xe000, 0xfffd, 0x10ffff} {
		s := New([]string{string(rune(r)), "-" + string(rune(r)) + "-", "x"})
		says(t, "P19.2: Type of what may stand", s.Type(r), true)
		at(t, "what may stand", s, string(rune(r)), 1, "-"+string(rune(r))+"-")
	}
}

func TestFullQuery(t *testing.T) {
	for _, r := range []rune{'a', 'é', 0x20ac, 0x1f600} {
		long := strings.Repeat(string(r), 200)
		s := New([]string{long, long + string(r), "x"})
		for i := range 200 {
			says(t, "P19.2: Type of up to 200", s.Type(int(r)), true)
			at(t, "up to 200", s, long[:(i+1)*utf8.RuneLen(r)], 1, long+string(r))
		}
		says(t, "P19.2: Type of 201", s.Type(int(r)), false)
		at(t, "200", s, long, 1, long+string(r))
		says(t, "P19.3: Back with 200", s.Back(), true)
		at(t, "200", s, long, 0, long)
		says(t, "P19.2: Type of 201", s.Type(int(r)), false)
		says(t, "P19.2: Type of what may not stand, with 200", s.Type(7), false)
		at(t, "200", s, long, 0, long)
		says(t, "P19.2: Rub of 200", s.Rub(), true)
		at(t, "199", s, long[utf8.RuneLen(r):], 1, long+string(r))
		says(t, "P19.2: Type of 200", s.Type(int(r)), true)
		at(t, "200", s, long, 1, long+string(r))
	}
	s := New(nil)
	for range 300 {
		s.Type('a')
	}
	at(t, "no more than 200, found or not", s, strings.Repeat("a", 200), nowhere, "")
}

func TestRub(t *testing.T) {
	s := New([]string{"aé", "é", "aéb", "a"})
	says(t, "P19.2: Type", typing(s, "aéb"), true)
	at(t, "aéb", s, "aéb", 2, "aéb")
	says(t, "P19.2: Rub", s.Rub(), true)
	at(t, "b is gone", s, "aé", 2, "aéb")
	says(t, "P19.3: Back", s.Back(), true)
	at(t, "Back", s, "aé", 0, "aé")
	says(t, "P19.2: Rub looks among all", s.Rub(), true)
	at(t, "a rune of two bytes is gone", s, "a", 3, "a")
	says(t, "P19.2: Rub of the last one", s.Rub(), false)
	at(t, "an empty query has no place", s, "", nowhere, "")
	says(t, "P19.2: Rub of nothing", s.Rub(), false)
	says(t, "P19.3: Back of an empty query", s.Back(), false)
	says(t, "P19.3: On of an empty query", s.On(), false)
	at(t, "an empty query has no place", s, "", nowhere, "")
	says(t, "P19.2: from the end", s.Type('a'), true)
	at(t, "from the end", s, "a", 3, "a")
}

func TestRubToAPlace(t *testing.T) {
	s := New([]string{"b", "a\ufffdc", "c"})
	says(t, "P19.2: Type", typing(s, "a\ufffdd"), false)
	at(t, "none", s, "a\ufffdd", nowhere, "")
	says(t, "P19.2: Rub to a place", s.Rub(), true)
	at(t, "a place again", s, "a\ufffd", 1, "a\ufffdc")
	says(t, "P19.2: Rub of U+FFFD", s.Rub(), true)
	at(t, "all its bytes are gone", s, "a", 1, "a\ufffdc")
	typing(s, "xy")
	says(t, "P19.2: Rub to no place", s.Rub(), false)
	at(t, "no place", s, "ax", nowhere, "")
}

func TestBackAndOn(t *testing.T) {
	s := New([]string{"x", "a", "", "ba", "y", "ab", "z"})
	s.Type('a')
	for _, place := range []int{5, 3, 1} {
		at(t, "Back", s, "a", place, []string{1: "a", 3: "ba", 5: "ab"}[place])
		says(t, "P19.3: Back", s.Back(), place != 1)
	}
	at(t, "it stays", s, "a", 1, "a")
	says(t, "P19.3: Back at the first one", s.Back(), false)
	for _, place := range []int{1, 3, 5} {
		at(t, "On", s, "a", place, []string{1: "a", 3: "ba", 5: "ab"}[place])
		says(t, "P19.3: On", s.On(), place != 5)
	}
	at(t, "it stays", s, "a", 5, "ab")
	says(t, "P19.3: On at the last one", s.On(), false)
	says(t, "P19.3: Back behind what stayed", s.Back(), true)
	at(t, "Back", s, "a", 3, "ba")
}

// The very first line is found, and the very last one, from wherever they are looked for.
func TestBothEnds(t *testing.T) {
	s := New([]string{"ab", "a", "a"})
	says(t, "P19.2: Type", s.Type('a'), true)
	at(t, "the last one", s, "a", 2, "a")
	says(t, "P19.3: Back twice", s.Back() && s.Back(), true)
	at(t, "the first one", s, "a", 0, "ab")
	says(t, "P19.3: Back of the first one", s.Back(), false)
	says(t, "P19.3: On twice", s.On() && s.On(), true)
	at(t, "the last one", s, "a", 2, "a")
	says(t, "P19.3: On of the last one", s.On(), false)
	says(t, "P19.3: Back twice", s.Back() && s.Back(), true)
	says(t, "P19.2: Type at the first one", s.Type('b'), true)
	at(t, "it fits still", s, "ab", 0, "ab")
}

// A query is looked for byte by byte: small letters are not great ones, and a line need not be UTF-8.
func TestFits(t *testing.T) {
	for i, c := range []struct {
		line, query string
		want        bool
	}{
		{"abc", "a", true}, {"abc", "b", true}, {"abc", "c", true}, {"abc", "abc", true}, {"abc", "bc", true},
		{"abc", "abcd", false}, {"abc", "ac", false}, {"abc", "cb", false}, {"abc", "A", false}, {"", "a", false},
		{"aab", "ab", true}, {"ababac", "abac", true}, {"a.c", ".", true}, {"abc", ".", false}, {"a*", "a*", true}, {"aa", "a*", false},
		{"é", "é", true}, {"\xff\xc3\xa9\xff", "é", true}, {"\xc3", "é", false}, {"\xa9", "é", false}, {"e\u0301", "é", false}, {"e\u0301", "e", true},
		{"\xff", "\ufffd", false}, {"\xef\xbf\xbd", "\ufffd", true},
	} {
		s := New([]string{c.line})
		told := typing(s, c.query)
		_, _, found := s.Found()
		if told != c.want || found != c.want {
			t.Errorf("P19.2: case %d: %q in %q: %v, %v", i, c.query, c.line, told, found)
		}
	}
}

// model is the document's words, with a place that is nowhere, if there is none.
type model struct {
	lines []string
	query []rune
	place int
}

func (m *model) fits(i int) bool { return strings.Contains(m.lines[i], string(m.query)) }

// fit are the places of all lines that fit, from one to ahead of another one.
func (m *model) fit(from, to int) []int {
	var l []int
	for i := from; i < to; i++ {
		if m.fits(i) {
			l = append(l, i)
		}
	}
	return l
}

func (m *model) last(l []int) bool {
	m.place = nowhere
	if len(l) > 0 {
		m.place = l[len(l)-1]
	}
	return len(l) > 0
}

func (m *model) typed(r rune) bool {
	if !mesg.Rune(int(r)) || len(m.query) == 200 {
		return false
	}
	m.query = append(m.query, r)
	to := len(m.lines)
	if m.place != nowhere {
		to = m.place + 1
	}
	return m.last(m.fit(0, to))
}

func (m *model) rub() bool {
	if len(m.query) == 0 {
		return false
	}
	m.query = m.query[:len(m.query)-1]
	if len(m.query) == 0 {
		m.place = nowhere
		return false
	}
	return m.last(m.fit(0, len(m.lines)))
}

func (m *model) back() bool {
	if m.place == nowhere {
		return false
	}
	l := m.fit(0, m.place)
	return len(l) > 0 && m.last(l)
}

func (m *model) on() bool {
	if m.place == nowhere {
		return false
	}
	l := m.fit(m.place+1, len(m.lines))
	return len(l) > 0 && m.last(l[:1])
}

func TestModel(t *testing.T) {
	x := source(19)
	runes := []rune{'a', 'b', 'é', 0x20ac, 0x1f600, 0xfffd, 7, 0x7f}
	for range 1000 {
		lines := x.lines(x.below(12))
		s, m := New(lines), &model{lines: slices.Clone(lines), place: nowhere}
		for range 40 {
			var told, want bool
			var what string
			switch x.below(6) {
			case 0, 1:
				r := runes[x.below(len(runes))]
				what, told, want = "P19.2: Type", s.Type(int(r)), m.typed(r)
			case 2, 3:
				what, told, want = "P19.2: Rub", s.Rub(), m.rub()
			case 4:
				what, told, want = "P19.3: Back", s.Back(), m.back()
			case 5:
				what, told, want = "P19.3: On", s.On(), m.on()
			}
			says(t, what, told, want)
			line := ""
			if m.place != nowhere {
				line = lines[m.place]
			}
			at(t, what, s, string(m.query), m.place, line)
		}
	}
}

// What is found fits; further back there is an older one, further on a newer one; and each one that fits is found.
func TestWhatFollows(t *testing.T) {
	x := source(5)
	for range 500 {
		lines := x.lines(1 + x.below(30))
		s := New(lines)
		typing(s, []string{"a", "b", "é", "aa", "ab"}[x.below(5)])
		var places []int
		for i, line, found := s.Found(); found; i, line, found = s.Found() {
			if !strings.Contains(line, s.Query()) || line != lines[i] {
				t.Fatalf("P19.5: %q does not stand in %q", s.Query(), line)
			}
			places = append(places, i)
			if !s.Back() {
				break
			}
		}
		slices.Reverse(places)
		if want := (&model{lines: lines, query: []rune(s.Query())}).fit(0, len(lines)); !slices.Equal(places, want) {
			t.Fatalf("P19.5: %q: back to %v, not %v", s.Query(), places, want)
		}
		for n := range places {
			if i, _, _ := s.Found(); i != places[n] {
				t.Fatalf("P19.5: on to %d, not %d", i, places[n])
			}
			s.On()
		}
	}
}

// What was handed in may be written to, ahead of the search and behind it.
func TestLinesAreKept(t *testing.T) {
	room := []string{"ax", "a", "b", "a"}
	s := New(room[:3])
	if !slices.Equal(room, []string{"ax", "a", "b", "a"}) {
		t.Fatalf("R5: New changed %q", room)
	}
	for i := range room {
		room[i] = "spoilt"
	}
	says(t, "R5", s.Type('a'), true)
	at(t, "R5: the spare room is no part of it", s, "a", 1, "a")
	says(t, "R5", s.Back(), true)
	at(t, "R5", s, "a", 0, "ax")
	s.Rub()
	if !slices.Equal(room, slices.Repeat([]string{"spoilt"}, 4)) {
		t.Errorf("R5: the search wrote to %q", room)
	}
}

func TestTwoSearches(t *testing.T) {
	lines := []string{"a", "b"}
	s, other := New(lines), New(lines)
	s.Type('a')
	other.Type('b')
	at(t, "R6: one", s, "a", 0, "a")
	at(t, "R6: the other one", other, "b", 1, "b")
	s.Rub()
	at(t, "R6: the other one", other, "b", 1, "b")
	for range 2 {
		at(t, "R6: asked again", s, "", nowhere, "")
	}
}
