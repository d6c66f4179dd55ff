package edit

import (
	"math"
	"slices"
	"strings"
	"testing"

	"duet/api"
	"duet/keys"
	"duet/mesg"
)

// source makes numbers that are the same in each run.
type source uint64

func (x *source) below(n int) int {
	*x = *x*6364136223846793005 + 1442695040888963407
	return int(*x>>33) % n
}

// line has letters of words, such as are none, and some that may not stand in a line.
func (x *source) line(n int) []int {
	l := make([]int, n)
	for i := range l {
		l[i] = int([]rune("ab_9Z -.~é€")[x.below(11)])
		if x.below(20) == 0 {
			l[i] = []int{7, 127, 128, -1, 0xd800, 0x110000, math.MaxInt, math.MinInt}[x.below(8)]
		}
	}
	return l
}

func runes(s string) []int {
	var l []int
	for _, c := range s {
		l = append(l, int(c))
	}
	return l
}

func many(r int, n int) []int { return slices.Repeat([]int{r}, n) }

func ctrl(r int) keys.Key { return keys.Key{Kind: keys.Ctrl, Rune: r} }
func meta(r int) keys.Key { return keys.Key{Kind: keys.Meta, Rune: r} }
func kind(k int) keys.Key { return keys.Key{Kind: k} }
func typed(r int) keys.Key {
	return keys.Key{Kind: keys.Rune, Rune: r}
}

// puts are acts that put a text's runes one behind the other.
func puts(at int, l ...int) []Act {
	var acts []Act
	for i, r := range l {
		acts = append(acts, Act{Put, at + i, r})
	}
	return acts
}

// cuts are acts that cut a text's runes, each one at the same place.
func cuts(at int, l ...int) []Act {
	var acts []Act
	for _, r := range l {
		acts = append(acts, Act{Cut, at, r})
	}
	return acts
}

func same(a, b State) bool {
	return slices.Equal(a.Line, b.Line) && a.At == b.At && slices.Equal(a.Kill, b.Kill)
}

// does holds what a key does against want, and what is to be so of each one (P18.4, R5, R6).
func does(t *testing.T, what string, s State, k keys.Key, want State, acts []Act) {
	t.Helper()
	was := State{slices.Clone(s.Line), s.At, slices.Clone(s.Kill)}
	n, got := Do(s, k)
	if !same(n, want) || !slices.Equal(got, acts) {
		t.Errorf("P18.3: %s: %v, %v: %v, %v; not %v, %v", what, s, k, n, got, want, acts)
	}
	if !same(s, was) {
		t.Errorf("R5: %s: %v was %v", what, s, was)
	}
	if l, is := Apply(s.Line, got); !is || !slices.Equal(l, n.Line) {
		t.Errorf("P18.4: %s: the acts %v make %v, %t; not %v", what, got, l, is, n.Line)
	}
	if n.At < 0 || n.At > len(n.Line) {
		t.Errorf("P18.4: %s: the caret %d in %v", what, n.At, n.Line)
	}
	if m, again := Do(s, k); !same(m, n) || !slices.Equal(again, got) {
		t.Errorf("R6: %s: %v, %v; again %v, %v", what, n, got, m, again)
	}
}

func TestKinds(t *testing.T) {
	if Put != 1 || Cut != 2 {
		t.Errorf("P18.1: the kinds %d, %d", Put, Cut)
	}
}

func TestExample(t *testing.T) {
	does(t, "example 1", State{Line: runes("abc"), At: 3}, ctrl('w'), State{Kill: runes("abc")}, cuts(0, 'a', 'b', 'c'))
}

func TestApply(t *testing.T) {
	for i, c := range []struct {
		line string
		acts []Act
		want string
		is   bool
	}{
		{"", nil, "", true},
		{"ab", nil, "ab", true},
		{"ab", []Act{}, "ab", true},
		{"", []Act{{Put, 0, 'x'}}, "x", true},
		{"ab", []Act{{Put, 0, 'x'}}, "xab", true},
		{"ab", []Act{{Put, 1, 'x'}}, "axb", true},
		{"ab", []Act{{Put, 2, 'x'}}, "abx", true},
		{"ab", []Act{{Put, 3, 'x'}}, "", false},
		{"ab", []Act{{Put, -1, 'x'}}, "", false},
		{"ab", []Act{{Put, math.MaxInt, 'x'}}, "", false},
		{"ab", []Act{{Put, math.MinInt, 'x'}}, "", false},
		{"ab", []Act{{Cut, 0, 'a'}}, "b", true},
		{"ab", []Act{{Cut, 1, 'b'}}, "a", true},
		{"ab", []Act{{Cut, 1, 'x'}}, "a", true},
		{"ab", []Act{{Cut, 2, 'b'}}, "", false},
		{"ab", []Act{{Cut, -1, 'b'}}, "", false},
		{"ab", []Act{{Cut, math.MaxInt, 'b'}}, "", false},
		{"ab", []Act{{Cut, math.MinInt, 'b'}}, "", false},
		{"", []Act{{Cut, 0, 'b'}}, "", false},
		{"ab", []Act{{0, 0, 'x'}}, "", false},
		{"ab", []Act{{3, 0, 'x'}}, "", false},
		{"ab", []Act{{-1, 1, 'x'}}, "", false},
		{"ab", []Act{{math.MinInt, 1, 'x'}}, "", false},
		{"ab", []Act{{}}, "", false},
		{"ab", []Act{{Put, 2, 'x'}, {Put, 3, 'y'}, {Put, 4, 'z'}}, "abxyz", true},
		{"ab", []Act{{Put, 2, 'x'}, {Put, 4, 'y'}}, "", false},
		{"ab", []Act{{Cut, 0, 'a'}, {Cut, 0, 'b'}}, "", true},
		{"ab", []Act{{Cut, 0, 'a'}, {Cut, 0, 'b'}, {Cut, 0, 'c'}}, "", false},
		{"ab", []Act{{Cut, 0, 'a'}, {Cut, 1, 'b'}}, "", false},
		{"ab", []Act{{Cut, 0, 'a'}, {Put, 1, 'a'}}, "ba", true},
		{"abcd", []Act{{Put, 4, 'x'}, {Put, 0, 'y'}, {Cut, 2, 'b'}, {Put, 3, 'z'}, {Cut, 0, 'y'}}, "aczdx", true},
		{"ab", []Act{{Put, 1, 'x'}, {Kind: 9}}, "", false},
		{"ab", []Act{{Kind: 9}, {Put, 1, 'x'}}, "", false},
	} {
		was := runes(c.line)
		l, is := Apply(was, c.acts)
		if !slices.Equal(l, runes(c.want)) || is != c.is {
			t.Errorf("P18.1, R3: case %d: %v, %t", i, l, is)
		}
		if !slices.Equal(was, runes(c.line)) {
			t.Errorf("R5: case %d: the line is %v", i, was)
		}
	}
}

// What a Put puts is not asked: any number stands there then.
func TestApplyAnyRune(t *testing.T) {
	for _, r := range []int{0, 7, -1, 0xd800, 0x110000, math.MaxInt, math.MinInt} {
		if l, is := Apply([]int{r}, []Act{{Put, 1, r}, {Cut, 0, 'x'}}); !is || !slices.Equal(l, []int{r}) {
			t.Errorf("P18.1: %d: %v, %t", r, l, is)
		}
	}
}

// A line may have more runes than may be typed: that asks Do, not Apply.
func TestApplyLong(t *testing.T) {
	if l, is := Apply(many('a', 1000), puts(1000, 'x', 'y')); !is || len(l) != 1002 || l[1001] != 'y' {
		t.Errorf("P18.1: %d runes, %t", len(l), is)
	}
	const n = 300000
	if l, is := Apply(many('a', n), cuts(0, many('a', n)...)); !is || len(l) != 0 {
		t.Errorf("P18.1: %d runes of a long line, %t", len(l), is)
	}
	if l, is := Apply(nil, puts(0, many('a', n)...)); !is || !slices.Equal(l, many('a', n)) {
		t.Errorf("P18.1: %d runes of many, %t", len(l), is)
	}
	var acts []Act
	for range n {
		acts = append(acts, Act{Put, 1, 'b'})
	}
	if l, is := Apply(many('a', n), acts); !is || len(l) != 2*n || l[0] != 'a' || l[n] != 'b' || l[n+1] != 'a' {
		t.Errorf("P18.1: %d runes of many ahead of one another, %t", len(l), is)
	}
}

// slowApply moves all that stands behind each time.
func slowApply(l []int, acts []Act) ([]int, bool) {
	l = slices.Clone(l)
	for _, a := range acts {
		switch {
		case a.Kind == Put && a.At >= 0 && a.At <= len(l):
			l = slices.Insert(l, a.At, a.Rune)
		case a.Kind == Cut && a.At >= 0 && a.At < len(l):
			l = slices.Delete(l, a.At, a.At+1)
		default:
			return nil, false
		}
	}
	return l, true
}

func TestApplyAgainstModel(t *testing.T) {
	x := source(18)
	good := 0
	for range 5000 {
		l := x.line(x.below(12))
		var acts []Act
		long := len(l)
		for range x.below(12) {
			a := Act{1 + x.below(2), x.below(long + 1), x.below(300)}
			if x.below(40) == 0 {
				a = Act{x.below(5) - 1, x.below(long+4) - 2, 'x'}
			}
			acts = append(acts, a)
			long = max(long+3-2*a.Kind, 0)
		}
		was, asked := slices.Clone(l), slices.Clone(acts)
		got, is := Apply(l, acts)
		want, can := slowApply(l, acts)
		if !slices.Equal(got, want) || is != can {
			t.Fatalf("P18.1: %v, %v: %v, %t; not %v, %t", l, acts, got, is, want, can)
		}
		if !slices.Equal(l, was) || !slices.Equal(acts, asked) {
			t.Fatalf("R5: %v was %v, %v was %v", l, was, acts, asked)
		}
		if is {
			good++
		}
	}
	if good < 1000 {
		t.Errorf("P18.1: but %d could be", good)
	}
}

func TestWord(t *testing.T) {
	for i, c := range []struct {
		line string
		at   int
		back bool
		want int
	}{
		{"", 0, true, 0}, {"", 0, false, 0}, {"", 5, true, 0}, {"", -5, false, 0},
		{"abc", 3, true, 0}, {"abc", 2, true, 0}, {"abc", 0, true, 0},
		{"abc", 0, false, 3}, {"abc", 1, false, 3}, {"abc", 3, false, 3},
		{"ab cd", 5, true, 3}, {"ab cd", 4, true, 3}, {"ab cd", 3, true, 0}, {"ab cd", 2, true, 0},
		{"ab cd", 0, false, 2}, {"ab cd", 1, false, 2}, {"ab cd", 2, false, 5}, {"ab cd", 3, false, 5},
		{"  ab--", 6, true, 2}, {"  ab--", 2, true, 0}, {"  ab--", 1, true, 0},
		{"  ab--", 0, false, 4}, {"  ab--", 4, false, 6}, {"  ab--", 5, false, 6},
		{"...", 3, true, 0}, {"...", 0, false, 3},
		{"a_9Zé€😀", 7, true, 0}, {"a_9Zé€😀", 0, false, 7},
		{"ab cd", 99, true, 3}, {"ab cd", -99, true, 0}, {"ab cd", 99, false, 5}, {"ab cd", -99, false, 2},
		{"ab cd", math.MaxInt, true, 3}, {"ab cd", math.MinInt, false, 2},
		{"ab cd", math.MinInt, true, 0}, {"ab cd", math.MaxInt, false, 5},
	} {
		l := runes(c.line)
		if n := Word(l, c.at, c.back); n != c.want {
			t.Errorf("P18.2: case %d: Word(%q, %d, %t): %d, not %d", i, c.line, c.at, c.back, n, c.want)
		}
		if !slices.Equal(l, runes(c.line)) {
			t.Errorf("R5: case %d: %v", i, l)
		}
	}
}

// letter says the document's words by a text.
func letter(r int) bool {
	return r > 127 || r >= 0 && strings.ContainsRune("0123456789abcdefghijklmnopqrstuvwxyzABCDEFGHIJKLMNOPQRSTUVWXYZ_", rune(r))
}

func TestWordLetters(t *testing.T) {
	all := []int{math.MinInt, -1, 0xd800, 0x10ffff, 0x110000, math.MaxInt}
	for r := range 300 {
		all = append(all, r)
	}
	for _, r := range all {
		on, back := 2, 3
		if letter(r) {
			on, back = 3, 0
		}
		l := []int{'a', 'b', r}
		if n := Word(l, 0, false); n != on {
			t.Errorf("P18.2: ab and %d: on to %d", r, n)
		}
		l = []int{r, 'a', 'b', r}
		if n := Word(l, 4, true); n != map[bool]int{true: 0, false: 1}[letter(r)] {
			t.Errorf("P18.2: ab between %d: back to %d", r, n)
		}
		l = []int{'a', 'b', '.', r}
		if n := Word(l, 4, true); n != map[bool]int{true: back + 3, false: 0}[letter(r)] {
			t.Errorf("P18.2: ab. and %d: back to %d", r, n)
		}
	}
}

func TestWordAgainstModel(t *testing.T) {
	x := source(4)
	for range 5000 {
		l := x.line(x.below(12))
		at := x.below(len(l)+5) - 2
		place := min(max(at, 0), len(l))
		// The last place (or first one) where a word begins (or ends).
		back, on := 0, len(l)
		for i := 1; i < place; i++ {
			if letter(l[i]) && !letter(l[i-1]) {
				back = i
			}
		}
		for i := len(l) - 1; i > place; i-- {
			if letter(l[i-1]) && !letter(l[i]) {
				on = i
			}
		}
		if n := Word(l, at, true); n != back {
			t.Fatalf("P18.2: %v back from %d: %d, not %d", l, at, n, back)
		}
		if n := Word(l, at, false); n != on {
			t.Fatalf("P18.2: %v on from %d: %d, not %d", l, at, n, on)
		}
	}
}

func TestType(t *testing.T) {
	s := func(line string, at int) State { return State{Line: runes(line), At: at, Kill: runes("kill")} }
	for i, c := range []struct {
		s    State
		r    int
		want State
		at   int // where it is put; -1: it is not
	}{
		{s("", 0), 'x', s("x", 1), 0},
		{s("ab", 0), 'x', s("xab", 1), 0},
		{s("ab", 1), 'x', s("axb", 2), 1},
		{s("ab", 2), 'x', s("abx", 3), 2},
		{s("ab", 3), 'x', s("abx", 3), 2},
		{s("ab", math.MaxInt), 'x', s("abx", 3), 2},
		{s("ab", -1), 'x', s("xab", 1), 0},
		{s("ab", math.MinInt), 'x', s("xab", 1), 0},
		{s("ab", 1), ' ', s("a b", 2), 1},
		{s("ab", 1), '~', s("a~b", 2), 1},
		{s("ab", 1), 0xa0, s("a\u00a0b", 2), 1},
		{s("ab", 1), 0x20ac, s("a€b", 2), 1},
		{s("ab", 1), 0x10ffff, s("a\U0010ffffb", 2), 1},
		{s("ab", 1), 31, s("ab", 1), -1},
		{s("ab", 1), 0, s("ab", 1), -1},
		{s("ab", 1), -1, s("ab", 1), -1},
		{s("ab", 1), 127, s("ab", 1), -1},
		{s("ab", 1), 0x9f, s("ab", 1), -1},
		{s("ab", 1), 0xd800, s("ab", 1), -1},
		{s("ab", 1), 0xdfff, s("ab", 1), -1},
		{s("ab", 1), 0x110000, s("ab", 1), -1},
		{s("ab", 1), math.MaxInt, s("ab", 1), -1},
		{s("ab", 1), math.MinInt, s("ab", 1), -1},
		{s("ab", 9), 7, s("ab", 2), -1},
		{s("ab", -9), 7, s("ab", 0), -1},
	} {
		var acts []Act
		if c.at >= 0 {
			acts = puts(c.at, c.r)
		}
		does(t, "typed "+string(rune('A'+i)), c.s, typed(c.r), c.want, acts)
	}
	for r := -5; r < 300; r++ {
		want, acts := State{Line: []int{'a'}, At: 1}, []Act(nil)
		if mesg.Rune(r) {
			want, acts = State{Line: []int{'a', r}, At: 2}, puts(1, r)
		}
		does(t, "typed", State{Line: []int{'a'}, At: 1}, typed(r), want, acts)
	}
}

func TestTypeFull(t *testing.T) {
	for _, n := range []int{998, 999} {
		for _, at := range []int{0, 5, n} {
			line := many('a', n)
			want := slices.Insert(many('a', n), at, 'x')
			does(t, "nearly full", State{Line: line, At: at}, typed('x'), State{Line: want, At: at + 1}, puts(at, 'x'))
		}
	}
	for _, n := range []int{1000, 1001, 5000} {
		for _, at := range []int{0, 5, n} {
			s := State{Line: many('a', n), At: at, Kill: runes("k")}
			does(t, "full", s, typed('x'), s, nil)
			does(t, "full", s, ctrl('y'), s, nil)
		}
	}
}

// Keys that move the caret change nothing else.
func TestMoves(t *testing.T) {
	keyses := map[string][]keys.Key{
		"begin": {kind(keys.Home), ctrl('a')},
		"end":   {kind(keys.End), ctrl('e')},
		"left":  {kind(keys.Left), ctrl('b')},
		"right": {kind(keys.Right), ctrl('f')},
		"back":  {meta('b')},
		"on":    {meta('f')},
	}
	for _, c := range []struct {
		line string
		at   int
		to   map[string]int
	}{
		{"", 0, map[string]int{"begin": 0, "end": 0, "left": 0, "right": 0, "back": 0, "on": 0}},
		{"", 7, map[string]int{"begin": 0, "end": 0, "left": 0, "right": 0, "back": 0, "on": 0}},
		{"ab cd", 0, map[string]int{"begin": 0, "end": 5, "left": 0, "right": 1, "back": 0, "on": 2}},
		{"ab cd", 1, map[string]int{"begin": 0, "end": 5, "left": 0, "right": 2, "back": 0, "on": 2}},
		{"ab cd", 3, map[string]int{"begin": 0, "end": 5, "left": 2, "right": 4, "back": 0, "on": 5}},
		{"ab cd", 4, map[string]int{"begin": 0, "end": 5, "left": 3, "right": 5, "back": 3, "on": 5}},
		{"ab cd", 5, map[string]int{"begin": 0, "end": 5, "left": 4, "right": 5, "back": 3, "on": 5}},
		{"ab cd", 6, map[string]int{"begin": 0, "end": 5, "left": 4, "right": 5, "back": 3, "on": 5}},
		{"ab cd", math.MaxInt, map[string]int{"begin": 0, "end": 5, "left": 4, "right": 5, "back": 3, "on": 5}},
		{"ab cd", -1, map[string]int{"begin": 0, "end": 5, "left": 0, "right": 1, "back": 0, "on": 2}},
		{"ab cd", math.MinInt, map[string]int{"begin": 0, "end": 5, "left": 0, "right": 1, "back": 0, "on": 2}},
	} {
		s := State{Line: runes(c.line), At: c.at, Kill: runes("kill")}
		for what, to := range c.to {
			for _, k := range keyses[what] {
				does(t, what, s, k, State{s.Line, to, s.Kill}, nil)
			}
		}
	}
}

func TestCutOne(t *testing.T) {
	s := func(line string, at int) State { return State{Line: runes(line), At: at, Kill: runes("kill")} }
	h, here := []keys.Key{ctrl('h')}, []keys.Key{ctrl('d'), kind(keys.Del)}
	for _, c := range []struct {
		l    []keys.Key
		s    State
		want State
		acts []Act
	}{
		{h, s("", 0), s("", 0), nil},
		{h, s("abc", 0), s("abc", 0), nil},
		{h, s("abc", -4), s("abc", 0), nil},
		{h, s("abc", 1), s("bc", 0), cuts(0, 'a')},
		{h, s("abc", 2), s("ac", 1), cuts(1, 'b')},
		{h, s("abc", 3), s("ab", 2), cuts(2, 'c')},
		{h, s("abc", 9), s("ab", 2), cuts(2, 'c')},
		{h, s("a\a", 2), s("a", 1), cuts(1, 7)},
		{here, s("", 0), s("", 0), nil},
		{here, s("abc", 3), s("abc", 3), nil},
		{here, s("abc", 9), s("abc", 3), nil},
		{here, s("abc", 0), s("bc", 0), cuts(0, 'a')},
		{here, s("abc", -4), s("bc", 0), cuts(0, 'a')},
		{here, s("abc", 1), s("ac", 1), cuts(1, 'b')},
		{here, s("abc", 2), s("ab", 2), cuts(2, 'c')},
	} {
		for _, k := range c.l {
			does(t, "one cut", c.s, k, c.want, c.acts)
		}
	}
	long := State{Line: many('a', 2000), At: 1000}
	does(t, "one cut of many", long, ctrl('h'), State{Line: many('a', 1999), At: 999}, cuts(999, 'a'))
	does(t, "one cut of many", long, ctrl('d'), State{Line: many('a', 1999), At: 1000}, cuts(1000, 'a'))
}

func TestKill(t *testing.T) {
	w := []keys.Key{ctrl('w'), meta(127)}
	k, u, d := []keys.Key{ctrl('k')}, []keys.Key{ctrl('u')}, []keys.Key{meta('d')}
	for _, c := range []struct {
		l        []keys.Key
		line     string
		at       int
		from, to int // what is cut of it
	}{
		{k, "", 0, 0, 0}, {k, "ab cd", 0, 0, 5}, {k, "ab cd", 2, 2, 5}, {k, "ab cd", 4, 4, 5}, {k, "ab cd", 5, 5, 5}, {k, "ab cd", 99, 5, 5}, {k, "ab cd", -99, 0, 5},
		{u, "", 0, 0, 0}, {u, "ab cd", 0, 0, 0}, {u, "ab cd", 2, 0, 2}, {u, "ab cd", 4, 0, 4}, {u, "ab cd", 5, 0, 5}, {u, "ab cd", 99, 0, 5}, {u, "ab cd", -99, 0, 0},
		{w, "", 0, 0, 0}, {w, "ab cd", 0, 0, 0}, {w, "ab cd", 1, 0, 1}, {w, "ab cd", 3, 0, 3}, {w, "ab cd", 5, 3, 5}, {w, "ab cd- ", 7, 3, 7}, {w, "ab cd", 99, 3, 5}, {w, "--", 2, 0, 2}, {w, "-a", -1, 0, 0},
		{d, "", 0, 0, 0}, {d, "ab cd", 0, 0, 2}, {d, "ab cd", 1, 1, 2}, {d, "ab cd", 2, 2, 5}, {d, "ab cd", 5, 5, 5}, {d, "ab -", 2, 2, 4}, {d, "ab cd", 99, 5, 5}, {d, "ab cd", -99, 0, 2},
		{k, "a\a\x7f", 1, 1, 3}, {u, "\a\ab", 2, 0, 2},
	} {
		line := runes(c.line)
		s := State{Line: line, At: c.at, Kill: runes("was")}
		want, acts := State{line, c.from, s.Kill}, []Act(nil)
		if c.from < c.to {
			want = State{slices.Delete(slices.Clone(line), c.from, c.to), c.from, line[c.from:c.to]}
			acts = cuts(c.from, line[c.from:c.to]...)
		} else if c.at > 0 {
			want.At = min(c.at, len(line))
		}
		for _, key := range c.l {
			does(t, "killed", s, key, want, acts)
		}
	}
	long := State{Line: many('a', 200000), At: 100000}
	does(t, "many killed", long, ctrl('k'), State{many('a', 100000), 100000, many('a', 100000)}, cuts(100000, many('a', 100000)...))
	does(t, "many killed", long, ctrl('u'), State{many('a', 100000), 0, many('a', 100000)}, cuts(0, many('a', 100000)...))
}

func TestYank(t *testing.T) {
	s := func(line string, at int, kill string) State {
		return State{Line: runes(line), At: at, Kill: runes(kill)}
	}
	for _, c := range []struct {
		s, want State
		acts    []Act
	}{
		{s("", 0, ""), s("", 0, ""), nil},
		{s("ab", 1, ""), s("ab", 1, ""), nil},
		{s("", 0, "xy"), s("xy", 2, "xy"), puts(0, 'x', 'y')},
		{s("ab", 0, "xy"), s("xyab", 2, "xy"), puts(0, 'x', 'y')},
		{s("ab", 1, "xy"), s("axyb", 3, "xy"), puts(1, 'x', 'y')},
		{s("ab", 2, "xy"), s("abxy", 4, "xy"), puts(2, 'x', 'y')},
		{s("ab", 9, "xy"), s("abxy", 4, "xy"), puts(2, 'x', 'y')},
		{s("ab", -9, "xy"), s("xyab", 2, "xy"), puts(0, 'x', 'y')},
		{s("ab", 1, "x\ay"), s("axb", 2, "x\ay"), puts(1, 'x')},
		{s("ab", 1, "\axy"), s("ab", 1, "\axy"), nil},
		{s("ab", 9, "\axy"), s("ab", 2, "\axy"), nil},
		{s("a\ab", 2, "x"), s("a\axb", 3, "x"), puts(2, 'x')},
	} {
		does(t, "yanked", c.s, ctrl('y'), c.want, c.acts)
	}
	kill := runes("vwxyz")
	for _, n := range []int{994, 995, 996, 997, 998, 999, 1000, 1001, 1500} {
		for _, at := range []int{0, 500, n} {
			in := min(5, max(1000-n, 0))
			want := slices.Insert(many('a', n), at, kill[:in]...)
			does(t, "yanked into many", State{many('a', n), at, kill}, ctrl('y'), State{want, at + in, kill}, puts(at, kill[:in]...))
		}
	}
	many := many('b', 5000)
	does(t, "many yanked", State{nil, 0, many}, ctrl('y'), State{many[:1000], 1000, many}, puts(0, many[:1000]...))
}

func TestSwap(t *testing.T) {
	s := func(line string, at int) State { return State{Line: runes(line), At: at, Kill: runes("kill")} }
	swap := func(at, r int) []Act { return append(cuts(at, r), puts(at+1, r)...) }
	for _, c := range []struct {
		s, want State
		acts    []Act
	}{
		{s("", 0), s("", 0), nil},
		{s("", 3), s("", 0), nil},
		{s("a", 0), s("a", 0), nil},
		{s("a", 1), s("a", 1), nil},
		{s("abc", 0), s("abc", 0), nil},
		{s("abc", -3), s("abc", 0), nil},
		{s("abc", 1), s("bac", 2), swap(0, 'a')},
		{s("abc", 2), s("acb", 3), swap(1, 'b')},
		{s("abc", 3), s("acb", 3), swap(1, 'b')},
		{s("abc", 99), s("acb", 3), swap(1, 'b')},
		{s("ab", 1), s("ba", 2), swap(0, 'a')},
		{s("ab", 2), s("ba", 2), swap(0, 'a')},
		{s("aa", 1), s("aa", 2), swap(0, 'a')},
		{s("\ab", 1), s("\ab", 1), nil},
		{s("\ab", 9), s("\ab", 2), nil},
		{s("a\a", 1), s("\aa", 2), swap(0, 'a')},
		{s("a\ac", 2), s("a\ac", 2), nil},
		{s("\aab", 2), s("\aba", 3), swap(1, 'a')},
	} {
		does(t, "swapped", c.s, ctrl('t'), c.want, c.acts)
	}
	for n, can := range map[int]bool{998: true, 999: true, 1000: true, 1001: false, 2000: false} {
		for _, at := range []int{1, 500, n - 1, n} {
			line := many('a', n)
			i := min(at, n-1)
			line[i-1], line[i] = 'x', 'y'
			st, want, acts := State{Line: line, At: at}, State{Line: line, At: at}, []Act(nil)
			if can {
				want = State{Line: slices.Clone(line), At: i + 1}
				want.Line[i-1], want.Line[i] = 'y', 'x'
				acts = swap(i-1, 'x')
			}
			does(t, "swapped of many", st, ctrl('t'), want, acts)
		}
	}
}

// named tells whether the document says what a key does.
func named(k keys.Key) bool {
	switch k.Kind {
	case keys.Rune, keys.Home, keys.End, keys.Left, keys.Right, keys.Del:
		return true
	case keys.Ctrl:
		return k.Rune > 0 && k.Rune < 128 && strings.ContainsRune("aebfhdkuwyt", rune(k.Rune))
	case keys.Meta:
		return k.Rune > 0 && k.Rune < 128 && strings.ContainsRune("bfd\x7f", rune(k.Rune))
	}
	return false
}

func TestOtherKeys(t *testing.T) {
	kinds := []int{math.MinInt, math.MaxInt, 100}
	for k := -3; k < 20; k++ {
		kinds = append(kinds, k)
	}
	all := []int{math.MinInt, math.MaxInt, 'a' + 256, 'k' + 1<<32}
	for r := -3; r < 300; r++ {
		all = append(all, r)
	}
	for _, k := range kinds {
		for _, r := range all {
			key := keys.Key{Kind: k, Rune: r}
			if named(key) {
				continue
			}
			for at, to := range map[int]int{-5: 0, 0: 0, 1: 1, 3: 3, 9: 3} {
				s := State{runes("a b"), at, runes("kill")}
				n, acts := Do(s, key)
				if !same(n, State{s.Line, to, s.Kill}) || len(acts) > 0 {
					t.Errorf("P18.3: another key %v: %v, %v", key, n, acts)
				}
			}
		}
	}
}

// The Rune of a key is asked where its Kind is Rune, Ctrl or Meta alone.
func TestRuneNotAsked(t *testing.T) {
	x := source(9)
	for _, k := range []int{keys.Home, keys.End, keys.Left, keys.Right, keys.Del, keys.Up, keys.Down, keys.Esc, keys.Bad} {
		for _, r := range []int{1, 7, 'a', 'k', 127, -1, math.MaxInt, math.MinInt} {
			s := State{x.line(6), 3, runes("kill")}
			want, acts := Do(s, kind(k))
			does(t, "with a rune", s, keys.Key{Kind: k, Rune: r}, want, acts)
		}
	}
}

// model is the document's words on a line as two texts, ahead of the caret and behind it.
type model struct {
	ahead, behind, kill []int
}

func (m *model) whole() []int { return slices.Concat(m.ahead, m.behind) }

func (m *model) kills(from, to int) {
	l := m.whole()
	if from < to {
		m.kill = l[from:to]
	}
	m.ahead, m.behind = l[:from:from], l[to:]
}

func (m *model) put(r int) bool {
	can := mesg.Rune(r) && len(m.ahead)+len(m.behind) < api.MaxRunes
	if can {
		m.ahead = append(slices.Clone(m.ahead), r)
	}
	return can
}

func (m *model) to(at int) {
	l := m.whole()
	at = min(max(at, 0), len(l))
	m.ahead, m.behind = l[:at:at], l[at:]
}

func (m *model) do(k keys.Key) {
	at, long := len(m.ahead), len(m.ahead)+len(m.behind)
	l := m.whole()
	switch {
	case k.Kind == keys.Rune:
		m.put(k.Rune)
	case k.Kind == keys.Home, k == ctrl('a'):
		m.to(0)
	case k.Kind == keys.End, k == ctrl('e'):
		m.to(long)
	case k.Kind == keys.Left, k == ctrl('b'):
		m.to(at - 1)
	case k.Kind == keys.Right, k == ctrl('f'):
		m.to(at + 1)
	case k == meta('b'):
		m.to(Word(l, at, true))
	case k == meta('f'):
		m.to(Word(l, at, false))
	case k == ctrl('h') && at > 0:
		m.ahead = m.ahead[:at-1]
	case (k == ctrl('d') || k.Kind == keys.Del) && at < long:
		m.behind = m.behind[1:]
	case k == ctrl('k'):
		m.kills(at, long)
	case k == ctrl('u'):
		m.kills(0, at)
	case k == ctrl('w'), k == meta(127):
		m.kills(Word(l, at, true), at)
	case k == meta('d'):
		m.kills(at, Word(l, at, false))
	case k == ctrl('y'):
		for _, r := range m.kill {
			if !m.put(r) {
				break
			}
		}
	case k == ctrl('t') && at > 0 && long >= 2 && long <= 1000:
		i := min(at, long-1)
		if mesg.Rune(l[i-1]) {
			l[i-1], l[i] = l[i], l[i-1]
			m.ahead, m.behind = l[:i+1:i+1], l[i+1:]
		}
	}
}

func (x *source) key() keys.Key {
	switch x.below(4) {
	case 0:
		return typed(x.line(1)[0])
	case 1:
		return ctrl(int("aebfhdkuwyt"[x.below(11)]))
	case 2:
		return meta(int("bfd\x7f"[x.below(4)]))
	}
	return keys.Key{Kind: x.below(15), Rune: x.below(130)}
}

func TestDoAgainstModel(t *testing.T) {
	x := source(181)
	for round := range 400 {
		n := x.below(12)
		if round%5 == 0 {
			n = 990 + x.below(15)
		}
		s := State{x.line(n), x.below(n+5) - 2, x.line(x.below(4))}
		m := model{ahead: s.Line, kill: s.Kill}
		m.to(s.At)
		for range 60 {
			k := x.key()
			m.do(k)
			next, acts := Do(s, k)
			want := State{m.whole(), len(m.ahead), m.kill}
			does(t, "by chance", s, k, want, acts)
			for _, a := range acts {
				if a.Kind != Put && a.Kind != Cut {
					t.Fatalf("P18.3: %v", a)
				}
			}
			if t.Failed() {
				return
			}
			s = next
		}
	}
}

// What is killed and yanked at once is as it was.
func TestKillAndYank(t *testing.T) {
	x := source(33)
	killers := []keys.Key{ctrl('k'), ctrl('u'), ctrl('w'), meta(127), meta('d')}
	for _, n := range []int{0, 1, 2, 5, 9, 20, 999, 1000} {
		for range 40 {
			s := State{Line: make([]int, n), At: x.below(n + 1), Kill: nil}
			for i := range s.Line {
				s.Line[i] = int([]rune("ab -é€")[x.below(6)])
			}
			for _, k := range killers {
				cut, acts := Do(s, k)
				if len(cut.Line)+len(cut.Kill) != n || len(acts) != len(cut.Kill) {
					t.Fatalf("P18.4: %v: %v, %v", s, cut, acts)
				}
				again, _ := Do(cut, ctrl('y'))
				if !slices.Equal(again.Line, s.Line) || !slices.Equal(again.Kill, cut.Kill) {
					t.Fatalf("P18.4: %v: %v and %v", s, cut, again)
				}
			}
		}
	}
}

// What is answered is the caller's, with its spare room: no list of it shares any with another one, nor with what was handed in.
func TestMemory(t *testing.T) {
	spoil := func(l []int) {
		l = l[:cap(l)]
		for i := range l {
			l[i] = -77
		}
	}
	all := []keys.Key{typed('x'), kind(keys.Up), ctrl('a'), ctrl('h'), ctrl('d'), ctrl('k'), ctrl('u'), ctrl('w'), meta('d'), ctrl('y'), ctrl('t')}
	for _, k := range all {
		room := append(make([]int, 0, 50), runes("ab cd ef")...)
		killed := append(make([]int, 0, 50), runes("xyz")...)
		s := State{room, 4, killed}
		n, acts := Do(s, k)
		line, kill, did := slices.Clone(n.Line), slices.Clone(n.Kill), slices.Clone(acts)

		spoil(n.Line)
		if !slices.Equal(n.Kill, kill) || !slices.Equal(acts, did) || !slices.Equal(s.Line, runes("ab cd ef")) || !slices.Equal(s.Kill, runes("xyz")) {
			t.Errorf("R5: %v: the line shares memory", k)
		}
		n.Line = line
		spoil(n.Kill)
		if !slices.Equal(n.Line, line) || !slices.Equal(acts, did) || !slices.Equal(s.Line, runes("ab cd ef")) || !slices.Equal(s.Kill, runes("xyz")) {
			t.Errorf("R5: %v: what was killed shares memory", k)
		}
		acts = acts[:cap(acts)]
		for i := range acts {
			acts[i] = Act{9, 9, 9}
		}
		for _, l := range [][]int{room[:50], killed[:50]} {
			for _, r := range l[8:] {
				if r != 0 {
					t.Errorf("R5: %v: the spare room of what was handed in is %v", k, l)
				}
			}
		}
		if m, again := Do(s, k); !slices.Equal(m.Line, line) || !slices.Equal(m.Kill, kill) || !slices.Equal(again, did) {
			t.Errorf("R6: %v: %v, %v", k, m, again)
		}
	}
	room := append(make([]int, 0, 50), 'a', 'b')
	for _, acts := range [][]Act{nil, {{Put, 1, 'x'}}, {{Put, 2, 'x'}}, {{Cut, 0, 'a'}}, {{Put, 2, 'x'}, {Cut, 9, 0}}} {
		l, is := Apply(room, acts)
		want := slices.Clone(l)
		spoil(l)
		if again, can := Apply(room, acts); !slices.Equal(again, want) || can != is {
			t.Errorf("R6: %v: %v, %t", acts, again, can)
		}
		if !slices.Equal(room, runes("ab")) || slices.Max(room[:50][2:]) != 0 || slices.Min(room[:50][2:]) != 0 {
			t.Errorf("R5: %v: %v", acts, room[:50])
		}
	}
}

func TestNothing(t *testing.T) {
	if n, acts := Do(State{}, keys.Key{}); !same(n, State{}) || len(acts) > 0 {
		t.Errorf("P18.3: %v, %v", n, acts)
	}
	x := source(3)
	for range 2000 {
		k := x.key()
		if n, acts := Do(State{At: x.below(9) - 4}, k); n.At != len(acts) || len(n.Kill) > 0 {
			t.Errorf("P18.3: %v to an empty line: %v, %v", k, n, acts)
		}
	}
}
