package layout

import (
	"math"
	"reflect"
	"slices"
	"strconv"
	"strings"
	"testing"

	"duet/api"
	"duet/cells"
)

const (
	wide = 0x4e00
	none = 0x301 // that is not laid
)

// source makes numbers that are the same in each run.
type source uint64

func (x *source) below(n int) int {
	*x = *x*6364136223846793005 + 1442695040888963407
	return int(*x>>33) % n
}

func (x *source) runes(n int) []int {
	some := []int{'a', 'b', ' ', wide, wide, 0x1f600, none, none, 0x200b, 0, 7, -1, -2, 0xd800, 0x110000, math.MinInt, math.MaxInt, 0xe9}
	l := make([]int, n)
	for i := range l {
		l[i] = some[x.below(len(some))]
	}
	return l
}

// runes are a text's, but W is a wide one.
func runes(s string) []int {
	var l []int
	for _, c := range s {
		if c == 'W' {
			c = wide
		}
		l = append(l, int(c))
	}
	return l
}

func many(r int, n int) []int { return slices.Repeat([]int{r}, n) }

// asked is what Lay is asked for.
type asked struct {
	width        int
	prompt, line []int
	caret        int
	others       []int
}

func (a asked) clone() asked {
	return asked{a.width, slices.Clone(a.prompt), slices.Clone(a.line), a.caret, slices.Clone(a.others)}
}

func (a asked) lay() (Page, api.Errno) { return Lay(a.width, a.prompt, a.line, a.caret, a.others) }

// lays holds what is answered against want, and what is to be so of each answer (P21.3, R5, R6).
func (a asked) lays(t *testing.T, what string, want Page, e api.Errno) Page {
	t.Helper()
	was := a.clone()
	p, got := a.lay()
	if got != e || !same(p, want) {
		t.Fatalf("%s: %v: %d, not %d:\n%v, not\n%v", what, a, got, e, p, want)
	}
	if e == api.OK && Check(p, a.width) != api.OK {
		t.Fatalf("P21.3: %s: %v: %v may not be", what, a, p)
	}
	if !reflect.DeepEqual(a, was) {
		t.Fatalf("R5: %s: %v was %v", what, a, was)
	}
	if again, n := a.lay(); n != got || !same(again, p) {
		t.Fatalf("R6: %s: %v: %v, again %v", what, a, p, again)
	}
	return p
}

func same(a, b Page) bool {
	return slices.EqualFunc(a.Rows, b.Rows, slices.Equal[[]api.Cell]) && a.Row == b.Row && a.Col == b.Col
}

// page reads rows: a letter is itself, . an empty cell, W a wide rune and w its right half; ^ marks the cell ahead of it.
func page(row, col int, rows ...string) Page {
	p := Page{Row: row, Col: col}
	for _, s := range rows {
		var l []api.Cell
		for _, c := range s {
			switch c {
			case '^':
				l[len(l)-1].Mark = true
			case '.':
				l = append(l, api.Cell{})
			case 'W':
				l = append(l, api.Cell{Rune: wide})
			case 'w':
				l = append(l, api.Cell{Rune: -1})
			default:
				l = append(l, api.Cell{Rune: int(c)})
			}
		}
		p.Rows = append(p.Rows, l)
	}
	return p
}

func TestExample(t *testing.T) {
	a := asked{3, runes(">"), runes("abc"), 3, nil}
	p := a.lays(t, "example 1", page(1, 1, ">ab", "c.."), api.OK)
	if l := Text(p); !slices.Equal(l, []string{">ab", "c"}) {
		t.Errorf("example 1: %q", l)
	}
}

func TestLay(t *testing.T) {
	for _, c := range []struct {
		what         string
		width        int
		prompt, line string
		caret        int
		others       []int
		want         Page
	}{
		{"nothing", 3, "", "", 0, nil, page(0, 0, "...")},
		{"nothing, and a mark", 3, "", "", 0, []int{0}, page(0, 0, ".^..")},
		{"a prompt alone", 3, ">", "", 0, nil, page(0, 1, ">..")},
		{"a prompt that fills the row", 2, "> ", "", 0, nil, page(1, 0, "> ", "..")},
		{"a line alone", 3, "", "ab", 0, nil, page(0, 0, "ab.")},
		{"the prompt goes on in the next row", 2, "abc", "d", 0, nil, page(1, 1, "ab", "cd")},
		{"blanks are laid", 3, " ", " a ", 1, nil, page(0, 2, "  a", " ..")},
		{"the row is full, and the caret is not behind it", 3, "", "abc", 2, nil, page(0, 2, "abc")},
		{"the row is full, and the caret is behind it", 3, "", "abc", 3, nil, page(1, 0, "abc", "...")},
		{"the row is full, and a mark is behind it", 3, "", "abc", 0, []int{3}, page(0, 0, "abc", ".^..")},
		{"the caret starts a row", 3, "", "abcd", 3, nil, page(1, 0, "abc", "d..")},
		{"a wide one", 3, "", "W", 0, nil, page(0, 0, "Ww.")},
		{"behind a wide one", 3, "", "W", 1, nil, page(0, 2, "Ww.")},
		{"behind a wide one at the end", 2, "", "W", 1, nil, page(1, 0, "Ww", "..")},
		{"a wide one that just fits", 3, "", "aW", 1, nil, page(0, 1, "aWw")},
		{"a wide one that does not fit any more", 3, "", "abW", 2, nil, page(1, 0, "ab.", "Ww.")},
		{"behind one that does not fit any more", 3, "", "abW", 3, nil, page(1, 2, "ab.", "Ww.")},
		{"wide ones alone", 3, "", "WWW", 2, nil, page(2, 0, "Ww.", "Ww.", "Ww.")},
		{"wide ones alone, that fit", 4, "", "WWW", 2, nil, page(1, 0, "WwWw", "Ww..")},
		{"what is behind a wide one that does not fit stays behind it", 3, "", "abWc", 3, nil, page(1, 2, "ab.", "Wwc")},
		{"a wide one behind the prompt", 2, ">", "W", 0, nil, page(1, 0, ">.", "Ww")},
		{"a wide one in the prompt", 3, ">aW", "b", 0, nil, page(1, 2, ">a.", "Wwb")},

		{"marks", 4, ">", "abc", 0, []int{1, 3}, page(0, 1, ">ab^c", ".^...")},
		{"a mark at the caret", 4, "", "abc", 1, []int{1}, page(0, 1, "ab^c.")},
		{"marks at one place", 4, "", "abc", 0, []int{2, 2, 2}, page(0, 0, "abc^.")},
		{"a mark on a wide one", 3, "", "aWb", 0, []int{1}, page(0, 0, "aW^w^", "b..")},
		{"marks ahead of a wide one and behind it", 4, "", "aWb", 0, []int{2, 0}, page(0, 0, "a^Wwb^")},
		{"a mark on a wide one in the next row", 3, "", "abW", 0, []int{2}, page(0, 0, "ab.", "W^w^.")},
		{"marks that are none", 3, "", "ab", 0, []int{-1, 3, math.MinInt, math.MaxInt, 4}, page(0, 0, "ab.")},
		{"marks that are none, and make no row", 2, "", "ab", 0, []int{-1, 3}, page(0, 0, "ab")},
		{"a mark at the end, and some that are none", 3, "", "ab", 0, []int{-1, 2, 3}, page(0, 0, "ab.^")},
	} {
		a := asked{c.width, runes(c.prompt), runes(c.line), c.caret, c.others}
		a.lays(t, "P21.1: "+c.what, c.want, api.OK)
	}
}

// Runes of width 0 are not laid: a caret there is where the next one is that is laid.
func TestNotLaid(t *testing.T) {
	for i, c := range []struct {
		width        int
		prompt, line []int
		caret        int
		others       []int
		want         Page
	}{
		{4, nil, []int{'a', none, 'b'}, 1, nil, page(0, 1, "ab..")},
		{4, nil, []int{'a', none, 'b'}, 2, nil, page(0, 1, "ab..")},
		{4, nil, []int{'a', none, 'b'}, 0, []int{1}, page(0, 0, "ab^..")},
		{4, nil, []int{'a', none, none, none, wide}, 2, []int{1}, page(0, 1, "aW^w^.")},
		{4, nil, []int{none, 'a'}, 0, nil, page(0, 0, "a...")},
		{4, nil, []int{none}, 0, nil, page(0, 0, "....")},
		{4, nil, []int{none}, 1, nil, page(0, 0, "....")},
		{4, nil, []int{'a', none}, 1, nil, page(0, 1, "a...")},
		{4, nil, []int{'a', none}, 2, nil, page(0, 1, "a...")},
		{2, nil, []int{'a', 'b', none}, 0, nil, page(0, 0, "ab")},
		{2, nil, []int{'a', 'b', none}, 2, nil, page(1, 0, "ab", "..")},
		{2, nil, []int{'a', 'b', none}, 0, []int{2}, page(0, 0, "ab", ".^.")},
		{2, nil, []int{'a', 'b', none}, 0, []int{3}, page(0, 0, "ab", ".^.")},
		{2, nil, []int{'a', 'b', none, 'c'}, 2, nil, page(1, 0, "ab", "c.")},
		{3, nil, []int{'a', 'b', none, wide}, 2, nil, page(1, 0, "ab.", "Ww.")},
		{3, nil, []int{'a', 'b', none, wide}, 0, []int{2}, page(0, 0, "ab.", "W^w^.")},
		{3, []int{none, '>', none}, []int{none, 'a'}, 0, nil, page(0, 1, ">a.")},
		{2, []int{'>', ' ', none}, []int{none}, 0, nil, page(1, 0, "> ", "..")},
		{2, []int{none, none}, nil, 0, nil, page(0, 0, "..")},
		{3, []int{0, -1}, []int{-1, 0, 'a', 7, 0x7f, -2, 0xd800, 0x110000, math.MinInt, math.MaxInt, 1<<32 + 'a', 'b'}, 11, nil, page(0, 1, "ab.")},
	} {
		a := asked{c.width, c.prompt, c.line, c.caret, c.others}
		a.lays(t, "P21.1: not laid, case "+strconv.Itoa(i), c.want, api.OK)
	}
}

func TestErrArg(t *testing.T) {
	full := many('a', 1000) // of width 2 more rows than may be: ErrArg is told ahead of that (R2)
	for i, c := range []struct {
		a asked
		e api.Errno
	}{
		{asked{1, nil, nil, 0, nil}, api.ErrArg},
		{asked{0, nil, nil, 0, nil}, api.ErrArg},
		{asked{-2, nil, nil, 0, nil}, api.ErrArg},
		{asked{math.MinInt, nil, nil, 0, nil}, api.ErrArg},
		{asked{513, nil, nil, 0, nil}, api.ErrArg},
		{asked{math.MaxInt, nil, nil, 0, nil}, api.ErrArg},
		{asked{1, nil, full, 0, nil}, api.ErrArg},
		{asked{2, many('a', 201), nil, 0, nil}, api.ErrArg},
		{asked{512, many(none, 201), nil, 0, nil}, api.ErrArg},
		{asked{2, many('a', 201), full, 0, nil}, api.ErrArg},
		{asked{2, nil, many('a', 1001), 0, nil}, api.ErrArg},
		{asked{512, nil, many(none, 1001), 0, nil}, api.ErrArg},
		{asked{2, nil, nil, 0, many(0, 21)}, api.ErrArg},
		{asked{2, nil, nil, 0, many(-1, 21)}, api.ErrArg},
		{asked{2, nil, full, 0, many(0, 21)}, api.ErrArg},
		{asked{2, nil, nil, -1, nil}, api.ErrArg},
		{asked{2, nil, nil, 1, nil}, api.ErrArg},
		{asked{2, many('a', 9), many('a', 3), 4, nil}, api.ErrArg},
		{asked{2, nil, many('a', 3), -1, nil}, api.ErrArg},
		{asked{2, nil, many('a', 3), math.MinInt, nil}, api.ErrArg},
		{asked{2, nil, many('a', 3), math.MaxInt, nil}, api.ErrArg},
		{asked{2, nil, full, 1001, nil}, api.ErrArg},
		{asked{2, nil, full, 1000, nil}, api.ErrFull},
	} {
		p, e := c.a.lay()
		if e != c.e || !same(p, Page{}) {
			t.Errorf("P21.1: case %d: %d, not %d; %d rows, %d, %d", i, e, c.e, len(p.Rows), p.Row, p.Col)
		}
	}
}

// As wide, and as much, as may be.
func TestMost(t *testing.T) {
	a := asked{512, many('>', 200), many('a', 1000), 1000, many(1000, 20)}
	p, e := a.lay()
	if e != api.OK || len(p.Rows) != 3 || p.Row != 2 || p.Col != 1200-1024 || !p.Rows[2][176].Mark || p.Rows[2][175] != (api.Cell{Rune: 'a'}) || Check(p, 512) != api.OK {
		t.Errorf("P21.1: %d, %d rows, %d, %d", e, len(p.Rows), p.Row, p.Col)
	}
	a = asked{2, nil, nil, 0, []int{0}}
	a.lays(t, "P21.1: as narrow as may be", page(0, 0, ".^."), api.OK)
	for _, n := range []int{2, 3, 511, 512} {
		if p, e := Lay(n, nil, nil, 0, nil); e != api.OK || len(p.Rows) != 1 || len(p.Rows[0]) != n {
			t.Errorf("P21.1: width %d: %d", n, e)
		}
	}
}

func TestErrFull(t *testing.T) {
	for i, c := range []struct {
		a    asked
		rows int // 0: too many
	}{
		{asked{2, nil, many('a', 400), 0, nil}, 200},
		{asked{2, nil, many('a', 400), 399, nil}, 200},
		{asked{2, nil, many('a', 400), 400, nil}, 0},
		{asked{2, nil, many('a', 399), 399, nil}, 200},
		{asked{2, nil, many('a', 401), 0, nil}, 0},
		{asked{2, nil, many('a', 400), 0, []int{399}}, 200},
		{asked{2, nil, many('a', 400), 0, []int{400}}, 0},
		{asked{2, nil, many('a', 400), 0, []int{401, -1}}, 200},
		{asked{2, many('>', 200), many('a', 200), 0, nil}, 200},
		{asked{2, many('>', 200), many('a', 201), 0, nil}, 0},
		{asked{2, many('>', 200), many('a', 200), 200, nil}, 0},
		{asked{2, nil, many(wide, 200), 199, nil}, 200},
		{asked{2, nil, many(wide, 200), 200, nil}, 0},
		{asked{3, nil, many(wide, 200), 200, nil}, 200},
		{asked{3, nil, many(wide, 201), 0, nil}, 0},
		{asked{2, nil, append(many('a', 400), many(none, 600)...), 0, nil}, 200},
		{asked{2, nil, append(many('a', 400), many(none, 600)...), 400, nil}, 0},
		{asked{2, nil, append(many(none, 600), many('a', 400)...), 600, nil}, 200},
		{asked{2, nil, append(many(none, 599), many('a', 401)...), 0, nil}, 0},
		{asked{2, nil, many(none, 1000), 1000, []int{1000}}, 1},
	} {
		p, e := c.a.lay()
		if c.rows == 0 && (e != api.ErrFull || !same(p, Page{})) || c.rows > 0 && (e != api.OK || len(p.Rows) != c.rows || Check(p, c.a.width) != api.OK) {
			t.Errorf("P21.1: case %d: %d, %d rows", i, e, len(p.Rows))
		}
	}
}

// slow is the document's words: cells by their places, put into rows at the end.
func slow(a asked) (Page, api.Errno) {
	type spot struct{ row, col int }
	all := map[spot]api.Cell{}
	at, last := spot{}, 0
	var laid []spot // of each rune of the line, or a row of -1
	for i, r := range slices.Concat(a.prompt, a.line) {
		here := spot{-1, 0}
		if w := cells.Width(r); w > 0 {
			if at.col+w > a.width {
				at = spot{at.row + 1, 0}
			}
			here = at
			all[at] = api.Cell{Rune: r}
			if w == 2 {
				all[spot{at.row, at.col + 1}] = api.Cell{Rune: -1}
			}
			at.col += w
			last = here.row
		}
		if i >= len(a.prompt) {
			laid = append(laid, here)
		}
	}
	if at.col == a.width {
		at = spot{at.row + 1, 0}
	}
	caret := func(i int) spot {
		for _, x := range laid[i:] {
			if x.row >= 0 {
				return x
			}
		}
		return at
	}
	own := caret(a.caret)
	last = max(last, own.row)
	for _, i := range a.others {
		if i < 0 || i > len(a.line) {
			continue
		}
		x := caret(i)
		last = max(last, x.row)
		all[x] = api.Cell{Rune: all[x].Rune, Mark: true}
		if next := (spot{x.row, x.col + 1}); all[next].Rune == -1 {
			all[next] = api.Cell{Rune: -1, Mark: true}
		}
	}
	if last >= 200 {
		return Page{}, api.ErrFull
	}
	p := Page{Rows: make([][]api.Cell, last+1), Row: own.row, Col: own.col}
	for row := range p.Rows {
		for col := range a.width {
			p.Rows[row] = append(p.Rows[row], all[spot{row, col}])
		}
	}
	return p, api.OK
}

func (x *source) asks() asked {
	a := asked{2 + x.below(7), x.runes(x.below(6)), x.runes(x.below(30)), 0, nil}
	a.caret = x.below(len(a.line) + 1)
	for range x.below(5) {
		a.others = append(a.others, x.below(len(a.line)+4)-2)
	}
	return a
}

func TestAgainstModel(t *testing.T) {
	x := source(21)
	for range 5000 {
		a := x.asks()
		want, e := slow(a)
		p := a.lays(t, "P21.1: by chance", want, e)
		var said, laid []int
		for _, row := range p.Rows {
			for _, c := range row {
				if c.Rune != 0 && c.Rune != -1 {
					said = append(said, c.Rune)
				}
			}
		}
		for _, r := range slices.Concat(a.prompt, a.line) {
			if cells.Width(r) > 0 {
				laid = append(laid, r)
			}
		}
		if !slices.Equal(said, laid) {
			t.Fatalf("P21.3: %v: the rows say %v, not %v", a, said, laid)
		}
		wider := a
		wider.width++
		if q, e := wider.lay(); e != api.OK || len(q.Rows) > len(p.Rows) {
			t.Fatalf("P21.3: %v: %d rows, a wider screen has %d", a, len(p.Rows), len(q.Rows))
		}
	}
	for range 100 {
		a := asked{2 + x.below(8), x.runes(200), x.runes(1000), 0, []int{x.below(1001), 1000}}
		want, e := slow(a)
		a.lays(t, "P21.1: long, by chance", want, e)
	}
}

func TestCheck(t *testing.T) {
	ok := func(what string, p Page, width int) {
		t.Helper()
		if e := Check(p, width); e != api.OK {
			t.Errorf("P21.2: %s: %d", what, e)
		}
	}
	bad := func(what string, p Page, width int) {
		t.Helper()
		if e := Check(p, width); e != api.ErrArg {
			t.Errorf("P21.2: %s: %d, not %d", what, e, api.ErrArg)
		}
	}
	rows := func(n, width int) Page {
		p := Page{}
		for range n {
			p.Rows = append(p.Rows, make([]api.Cell, width))
		}
		return p
	}
	at := func(row, col int) Page { return page(row, col, "ab.", "...") }
	for _, n := range []int{2, 3, 511, 512} {
		ok("a width", rows(1, n), n)
		bad("another width", rows(1, n), n+1)
		bad("another width", rows(1, n), n-1)
	}
	for _, n := range []int{1, 0, 513} {
		bad("no width", rows(1, n), n)
	}
	for _, n := range []int{-1, 513, math.MinInt, math.MaxInt} {
		bad("no width", rows(1, 3), n)
	}
	bad("no rows", Page{}, 3)
	bad("no rows", Page{Rows: [][]api.Cell{}}, 3)
	ok("200 rows", rows(200, 2), 2)
	bad("201 rows", rows(201, 2), 2)
	ok("two rows", at(0, 0), 3)
	ok("the last row, and the last column", at(1, 2), 3)
	for _, c := range [][2]int{{2, 0}, {-1, 0}, {0, 3}, {0, -1}, {1, 3}, {math.MinInt, 0}, {math.MaxInt, 0}, {0, math.MinInt}, {0, math.MaxInt}} {
		bad("Row or Col is none", at(c[0], c[1]), 3)
	}
	bad("a row is too short", page(0, 0, "abc", "ab"), 3)
	bad("a row is too long", page(0, 0, "abc", "abcd"), 3)
	bad("a row is too long, though what it has more is empty", page(0, 0, "abc."), 3)
	bad("a row of nothing", page(0, 0, "abc", ""), 3)
	ok("Row and Col on a right half", page(0, 1, "Ww."), 3)

	ok("wide", page(0, 0, "Ww."), 3)
	ok("wide, at the end", page(0, 0, ".Ww"), 3)
	ok("wide ones", page(0, 0, "WwWw", "aWwb", ".Ww."), 4)
	ok("marks", page(0, 0, "a^.^W^w^"), 4)
	ok("marks", page(0, 0, "a^.^Ww"), 4)
	bad("wide, without a right half", page(0, 0, "W.."), 3)
	bad("wide, without a right half", page(0, 0, "Wa."), 3)
	bad("wide, without a right half", page(0, 0, "WWw"), 3)
	bad("wide, at the end", page(0, 0, "..W"), 3)
	bad("wide, at the end, with a right half in the next row", page(0, 0, "..W", "w.."), 3)
	bad("a right half at the begin", page(0, 0, "w.."), 3)
	bad("a right half of nothing", page(0, 0, ".w."), 3)
	bad("a right half of a narrow one", page(0, 0, "aw."), 3)
	bad("two right halves", page(0, 0, "Www"), 3)
	bad("a right half of another Mark", page(0, 0, "W^w."), 3)
	bad("a right half of another Mark", page(0, 0, "Ww^."), 3)
	bad("in the last row", page(0, 0, "abc", "Ww.", "aw."), 3)
	room := page(0, 0, "ab.", "..Ww")
	room.Rows[1] = room.Rows[1][:3]
	bad("a right half in the spare room", room, 3)
}

func TestCheckRunes(t *testing.T) {
	for _, r := range []int{1, 7, 10, 0x1f, ' ', '~', 0x7f, 0x9f, 0xa0, none, 0x200b, 0xd800, 0xdfff, 0xe000, 0xfffd, 0xfe0f, 0x10ffff, 0x110000, 1 << 32, 1<<32 + 'a', -2, -3, math.MinInt, math.MaxInt, 0x1100, 0x1f600, wide} {
		for _, l := range [][]int{{r, 0, 0}, {0, 0, r}, {r, -1, 0}, {0, r, -1}} {
			row := []api.Cell{{Rune: l[0]}, {Rune: l[1]}, {Rune: l[2]}}
			want := api.ErrArg
			if w := cells.Width(r); w == 1 && !slices.Contains(l, -1) || w == 2 && slices.Contains(l, -1) {
				want = api.OK
			}
			if e := Check(Page{Rows: [][]api.Cell{row}}, 3); e != want {
				t.Errorf("P21.2: %x in %x: %d, not %d", r, l, e, want)
			}
		}
	}
}

// says is the document's words on a row's cells, each looked at with those beside it.
func says(row []api.Cell) bool {
	for i, c := range row {
		w := cells.Width(c.Rune)
		switch {
		case c.Rune == 0, w == 1:
		case w == 2 && i+1 < len(row) && row[i+1].Rune == -1:
		case c.Rune == -1 && i > 0 && cells.Width(row[i-1].Rune) == 2 && row[i-1].Mark == c.Mark:
		default:
			return false
		}
	}
	return true
}

func TestCheckAgainstModel(t *testing.T) {
	x := source(22)
	some := []int{0, 0, 'a', wide, wide, -1, -1, none, -2}
	good := 0
	for range 20000 {
		row := make([]api.Cell, 2+x.below(4))
		for i := range row {
			row[i] = api.Cell{Rune: some[x.below(len(some)-x.below(2)*2)], Mark: x.below(6) == 0}
		}
		was := slices.Clone(row)
		e := Check(Page{Rows: [][]api.Cell{row}}, len(row))
		if want := says(row); want != (e == api.OK) || !want && e != api.ErrArg {
			t.Fatalf("P21.2: %v: %d", row, e)
		}
		if !slices.Equal(row, was) {
			t.Fatalf("R5: %v was %v", row, was)
		}
		if e == api.OK {
			good++
		}
	}
	if good < 1000 {
		t.Errorf("P21.2: but %d may be", good)
	}
}

func TestText(t *testing.T) {
	const wideText = "\u4e00"
	for i, c := range []struct {
		p    Page
		want []string
	}{
		{Page{}, nil},
		{page(0, 0, "..."), []string{""}},
		{page(0, 0, ""), []string{""}},
		{page(0, 0, "", "a", ""), []string{"", "a", ""}},
		{page(0, 0, "a.b"), []string{"a b"}},
		{page(0, 0, ".a."), []string{" a"}},
		{page(0, 0, "..a"), []string{"  a"}},
		{page(0, 0, "a  "), []string{"a"}},
		{page(0, 0, " . "), []string{""}},
		{page(0, 0, "a. .", " b .", "cdef"), []string{"a", " b", "cdef"}},
		{page(0, 0, "a^.^b^.^"), []string{"a b"}},
		{page(0, 0, "WwaWw."), []string{wideText + "a" + wideText}},
		{page(0, 0, "Ww.Ww"), []string{wideText + " " + wideText}},
		{page(0, 0, "w", "a.w", "aw.b"), []string{"", "a", "a b"}}, // that may not be
		{page(-5, math.MaxInt, "a"), []string{"a"}},
		{page(0, 0, "\u3000", "\u00a0", "\t", "\n"), []string{"\u3000", "\u00a0", "\t", "\n"}}, // that are no blanks
		{page(0, 0, "é\u0301€😀"), []string{"é\u0301€😀"}},
	} {
		if l := Text(c.p); !slices.Equal(l, c.want) {
			t.Errorf("P21.2: case %d: %q, not %q", i, l, c.want)
		}
	}
	for _, r := range []int{-2, 0xd800, 0xdfff, 0x110000, 1<<32 + 'a', -1<<32 + 'a', math.MinInt, math.MaxInt} {
		p := Page{Rows: [][]api.Cell{{{Rune: 'a'}, {Rune: r}}}}
		if l := Text(p); !slices.Equal(l, []string{"a\ufffd"}) {
			t.Errorf("P21.2: %x, that is no rune: %q", r, l)
		}
	}
}

// A page may have more rows, and longer ones, than a screen.
func TestTextLong(t *testing.T) {
	p := Page{}
	for range 300 {
		p.Rows = append(p.Rows, slices.Repeat([]api.Cell{{Rune: 'a'}, {}, {Rune: wide}, {Rune: -1}}, 300))
	}
	if l := Text(p); len(l) != 300 || l[299] != strings.Repeat("a \u4e00", 300) {
		t.Errorf("P21.2: %d rows", len(l))
	}
}

// What is handed in is not written to, nor its spare room.
func TestSpareRoom(t *testing.T) {
	room := []int{'a', 'b', 'c', 'd', 'e', 'f'}
	was := slices.Clone(room)
	for range 2 {
		asked{3, room[:1], room[1:3], 2, []int{0}}.lays(t, "R5: spare room", page(1, 0, "ab^c", "..."), api.OK)
		asked{3, room[:1], room[:1], 0, room[:0]}.lays(t, "R5: one list twice", page(0, 1, "aa."), api.OK)
	}
	if !slices.Equal(room, was) {
		t.Errorf("R5: what was handed in is %v now", room)
	}
}

// What was answered is the caller's: whatever is written to it, nothing else changes.
func TestMemory(t *testing.T) {
	a := asked{3, runes(">"), runes("abcdefgh"), 8, []int{2}}
	want := page(3, 0, ">ab", "c^de", "fgh", "...")
	p := a.lays(t, "R5", want, api.OK)
	for i := range p.Rows {
		l := p.Rows[i][:cap(p.Rows[i])]
		for j := range l {
			l[j] = api.Cell{Rune: '!', Mark: true}
		}
		for j, row := range p.Rows {
			if j > i && !slices.Equal(row, want.Rows[j]) {
				t.Fatalf("R5: what was written to row %d stands in row %d", i, j)
			}
		}
		a.lays(t, "R5: behind what was written", want, api.OK)
	}
	p = want
	l := Text(p)
	l = l[:cap(l)]
	for i := range l {
		l[i] = "spoilt"
	}
	if again := Text(p); !slices.Equal(again, []string{">ab", "cde", "fgh", ""}) || !same(p, want) {
		t.Errorf("R5: Text: %q", again)
	}
}
