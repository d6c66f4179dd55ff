package term

import (
	"math"
	"regexp"
	"slices"
	"strconv"
	"strings"
	"testing"
	"unicode/utf8"

	"duet/api"
	"duet/cells"
	"duet/layout"
)

// source makes numbers that are the same in each run.
type source uint64

func (x *source) below(n int) int {
	*x = *x*6364136223846793005 + 1442695040888963407
	return int(*x>>33) % n
}

// bytes are such as a terminal is told, and such as it is not.
func (x *source) bytes(n int) string {
	some := []string{"a", "b", "cd", "\u4e00", "\u4e01", "\U0001f600", "\u0301", "é", " ", "\r", "\n", "\r\n", "\x1b[7m", "\x1b[27m", "\x1b[m", "\x1b[1;7m", "\x1b", "\x1b[", "\x1b[1", "\x1b[3~", "\x1bO", "\x1bx", "\x1b[123A", "\xe4", "\xe4\xb8", "\xf0\x9f", "\xff", "\x80", "\x07", "\x7f", "\xc2\x85", "\xed\xa0\x80"}
	var b strings.Builder
	for range n {
		switch x.below(8) {
		case 0:
			b.WriteByte(byte(x.below(256)))
		case 1, 2, 3:
			b.WriteString("\x1b[")
			if x.below(3) > 0 {
				b.WriteString(strconv.Itoa(x.below(5)))
			}
			b.WriteByte("ABCDKJX"[x.below(7)])
		default:
			b.WriteString(some[x.below(len(some))])
		}
	}
	return b.String()
}

func made(t *testing.T, width int) *Term {
	t.Helper()
	x, e := New(width)
	if x == nil || e != api.OK {
		t.Fatalf("P22.1: New(%d): %d", width, e)
	}
	return x
}

// show writes rows: a blank cell is _, an empty one ., a wide rune's right half <, and ^ is behind what is marked.
func show(rows [][]api.Cell) []string {
	var l []string
	for _, row := range rows {
		var b strings.Builder
		for _, c := range row {
			switch c.Rune {
			case 0:
				b.WriteByte('.')
			case -1:
				b.WriteByte('<')
			case ' ':
				b.WriteByte('_')
			default:
				b.WriteRune(rune(c.Rune))
			}
			if c.Mark {
				b.WriteByte('^')
			}
		}
		l = append(l, b.String())
	}
	return l
}

// shows holds a terminal against what is to be on its screen, and what is to be so of each one (P22.3).
func shows(t *testing.T, what string, x *Term, row, col int, want ...string) {
	t.Helper()
	l := x.Rows()
	if got := show(l); !slices.Equal(got, want) {
		t.Errorf("%s: %q, not %q", what, got, want)
	}
	if r, c := x.Cursor(); r != row || c != col {
		t.Errorf("%s: the cursor is at %d, %d, not %d, %d", what, r, c, row, col)
	}
	if len(l) > 0 {
		mayBe(t, what, x)
	}
}

func mayBe(t *testing.T, what string, x *Term) {
	t.Helper()
	l := x.Rows()
	row, col := x.Cursor()
	if row < 0 || row >= len(l) || col < 0 || col > len(l[0]) || layout.Check(layout.Page{Rows: l, Row: row, Col: min(col, len(l[0])-1)}, len(l[0])) != api.OK {
		t.Fatalf("P22.3: %s: %q, %d, %d", what, show(l), row, col)
	}
}

func TestExample(t *testing.T) {
	x := made(t, 3)
	x.Feed("abcd")
	shows(t, "example 1", x, 1, 1, "abc", "d..")
}

func TestNew(t *testing.T) {
	for _, n := range []int{1, 0, -1, -2, 513, 514, math.MinInt, math.MaxInt} {
		if x, e := New(n); x != nil || e != api.ErrArg {
			t.Errorf("P22.1: New(%d): %v, %d", n, x, e)
		}
	}
	for _, n := range []int{2, 3, 511, 512} {
		shows(t, "P22.1: new", made(t, n), 0, 0, strings.Repeat(".", n))
	}
}

func TestNil(t *testing.T) {
	for what, x := range map[string]*Term{"nil": nil, "one that New did not make": {}} {
		for _, s := range []string{"", "a", "\n", "\u4e00", "\x1b[K", "\x1b[J", "\x1b[9X", "\x1b[B", "\x1b[C", "\x1b[7m", "\x1b["} {
			x.Feed(s)
		}
		shows(t, "P22.1, R1: "+what, x, 0, 0)
		if l := x.Rows(); len(l) > 0 {
			t.Errorf("P22.1, R1: %s: %v", what, l)
		}
	}
}

func TestFeed(t *testing.T) {
	for _, c := range []struct {
		what     string
		width    int
		s        string
		row, col int
		want     []string
	}{
		{"nothing", 3, "", 0, 0, []string{"..."}},
		{"runes", 3, "a ", 0, 2, []string{"a_."}},
		{"a rune of 2, 3, 4 bytes, of width 1 and 2", 9, "é€😀一", 0, 6, []string{"é€😀<一<..."}},
		{"to the row's end", 3, "abc", 0, 3, []string{"abc"}},
		{"behind the row's end", 3, "abcd", 1, 1, []string{"abc", "d.."}},
		{"a wide one to the row's end", 3, "a一", 0, 3, []string{"a一<"}},
		{"a wide one that does not fit any more", 3, "ab一", 1, 2, []string{"ab.", "一<."}},
		{"wide ones alone", 2, "一二", 1, 2, []string{"一<", "二<"}},
		{"of width 0", 3, "\u0301a\u0301\u200b", 0, 1, []string{"a.."}},
		{"of width 0, at the row's end", 3, "abc\u0301", 0, 3, []string{"abc"}},
		{"into a row that is there", 3, "abc\r\nde\x1b[Afg", 1, 1, []string{"abf", "ge."}},

		{"0d", 3, "ab\r", 0, 0, []string{"ab."}},
		{"0d, and over it", 3, "ab\rc", 0, 1, []string{"cb."}},
		{"0d at the row's end", 3, "abc\rd", 0, 1, []string{"dbc"}},
		{"0d at the begin", 3, "\r\r", 0, 0, []string{"..."}},
		{"0a", 3, "a\n", 1, 1, []string{"a..", "..."}},
		{"0a, and a rune", 3, "a\nb", 1, 2, []string{"a..", ".b."}},
		{"0a at the row's end", 3, "abc\n", 1, 3, []string{"abc", "..."}},
		{"0a at the row's end, and a rune", 3, "abc\nd", 2, 1, []string{"abc", "...", "d.."}},
		{"0a to a row that is there", 3, "abcd\x1b[A\n", 1, 1, []string{"abc", "d.."}},

		{"over a wide one", 5, "一二\rx", 0, 1, []string{"x.二<."}},
		{"over a wide one's right half", 5, "一二\r\x1b[Cx", 0, 2, []string{".x二<."}},
		{"a wide one over a wide one", 5, "一二\r三", 0, 2, []string{"三<二<."}},
		{"a wide one over two halves", 5, "一二\r\x1b[C三", 0, 3, []string{".三<.."}},
		{"a wide one over two narrow ones", 5, "abcd\r\x1b[C三", 0, 3, []string{"a三<d."}},
		{"a wide one over a narrow one, and a wide one's half", 5, "a二b\r三", 0, 2, []string{"三<.b."}},
		{"a wide one over the right half at the row's end", 5, "abc四\r\x1b[2C三", 0, 4, []string{"ab三<."}},
		{"over a row that is behind one that does not fit", 3, "ab\r\ncde\x1b[A\x1b[C一", 1, 2, []string{"ab.", "一<e"}},

		{"A", 3, "\n\n\na\x1b[A", 2, 1, []string{"...", "...", "...", "a.."}},
		{"A of 2", 3, "\n\n\na\x1b[2A", 1, 1, []string{"...", "...", "...", "a.."}},
		{"A of 0 is of 1", 3, "\n\n\x1b[0A", 1, 0, []string{"...", "...", "..."}},
		{"A of 00 is of 1", 3, "\n\n\x1b[00A", 1, 0, []string{"...", "...", "..."}},
		{"A of 02", 3, "\n\n\n\x1b[02A", 1, 0, []string{"...", "...", "...", "..."}},
		{"A, not above all", 3, "\n\x1b[9A", 0, 0, []string{"...", "..."}},
		{"A, not above all", 3, "\x1b[A", 0, 0, []string{"..."}},
		{"A at the row's end stays there", 3, "\nabc\x1b[A", 0, 3, []string{"...", "abc"}},
		{"B", 3, "\n\n\n\x1b[3A\x1b[B", 1, 0, []string{"...", "...", "...", "..."}},
		{"B of 2", 3, "\n\n\n\x1b[3A\x1b[2B", 2, 0, []string{"...", "...", "...", "..."}},
		{"B makes no row", 3, "\n\n\x1b[A\x1b[99B", 2, 0, []string{"...", "...", "..."}},
		{"B makes no row", 3, "a\x1b[B", 0, 1, []string{"a.."}},
		{"C", 5, "\x1b[C", 0, 1, []string{"....."}},
		{"C of 3", 5, "a\x1b[3C", 0, 4, []string{"a...."}},
		{"C of 0 is of 1", 5, "\x1b[0C", 0, 1, []string{"....."}},
		{"C, not to the row's end", 5, "a\x1b[4C", 0, 4, []string{"a...."}},
		{"C, not to the row's end", 5, "\x1b[99C", 0, 4, []string{"....."}},
		{"C at the row's end goes back", 3, "abc\x1b[C", 0, 2, []string{"abc"}},
		{"D", 5, "abc\x1b[D", 0, 2, []string{"abc.."}},
		{"D of 2", 5, "abc\x1b[2D", 0, 1, []string{"abc.."}},
		{"D of 0 is of 1", 5, "abc\x1b[0D", 0, 2, []string{"abc.."}},
		{"D, not ahead of the row", 5, "abc\x1b[4D", 0, 0, []string{"abc.."}},
		{"D, not ahead of the row", 5, "\x1b[99D", 0, 0, []string{"....."}},
		{"D at the row's end", 3, "abc\x1b[D", 0, 2, []string{"abc"}},

		{"K", 5, "abcde\x1b[3D\x1b[K", 0, 2, []string{"ab..."}},
		{"K at the begin", 5, "abcde\r\x1b[K", 0, 0, []string{"....."}},
		{"K, whatever the number", 5, "abcde\x1b[3D\x1b[1K", 0, 2, []string{"ab..."}},
		{"K at the row's end", 3, "abc\x1b[K", 0, 3, []string{"abc"}},
		{"K of this row alone", 3, "abcdef\x1b[A\x1b[2D\x1b[K", 0, 1, []string{"a..", "def"}},
		{"K from a wide one on", 5, "a一b\x1b[3D\x1b[K", 0, 1, []string{"a...."}},
		{"K from a right half on", 5, "a一b\x1b[2D\x1b[K", 0, 2, []string{"a...."}},
		{"J", 3, "abcdefgh\x1b[A\x1b[D\x1b[J", 1, 1, []string{"abc", "d.."}},
		{"J of all", 3, "abcdefgh\x1b[9A\r\x1b[J", 0, 0, []string{"..."}},
		{"J, whatever the number", 3, "abcdefgh\x1b[9A\r\x1b[02J", 0, 0, []string{"..."}},
		{"J in the last row", 3, "abcde\x1b[D\x1b[J", 1, 1, []string{"abc", "d.."}},
		{"J at the row's end", 3, "abcdef\x1b[A\x1b[J", 0, 3, []string{"abc"}},
		{"J, and rows again", 3, "abcdefghi\x1b[2A\r\x1b[J\n\n\x1b[Ax", 1, 1, []string{"...", "x..", "..."}},
		{"J, and no row for B", 3, "abcdefghi\x1b[A\x1b[J\x1b[9B", 1, 3, []string{"abc", "def"}},
		{"X", 5, "abcde\r\x1b[C\x1b[X", 0, 1, []string{"a.cde"}},
		{"X of 3", 5, "abcde\r\x1b[C\x1b[3X", 0, 1, []string{"a...e"}},
		{"X of 0 is of 1", 5, "abcde\r\x1b[0X", 0, 0, []string{".bcde"}},
		{"X to the row's end", 5, "abcde\r\x1b[C\x1b[4X", 0, 1, []string{"a...."}},
		{"X not beyond the row's end", 3, "abcdef\x1b[A\x1b[D\x1b[99X", 0, 2, []string{"ab.", "def"}},
		{"X at the row's end", 3, "abc\x1b[X", 0, 3, []string{"abc"}},
		{"X of a wide one's left half", 5, "一二\r\x1b[X", 0, 0, []string{"..二<."}},
		{"X of a wide one's right half", 5, "一二\r\x1b[C\x1b[X", 0, 1, []string{"..二<."}},
		{"X of two halves", 5, "一二a\r\x1b[C\x1b[2X", 0, 1, []string{"....a"}},
	} {
		x := made(t, c.width)
		x.Feed(c.s)
		shows(t, "P22.2: "+c.what, x, c.row, c.col, c.want...)
	}
}

func TestMarks(t *testing.T) {
	for _, c := range []struct {
		what     string
		s        string
		row, col int
		want     []string
	}{
		{"not at first", "a", 0, 1, []string{"a...."}},
		{"7", "a\x1b[7mb\x1b[mc", 0, 3, []string{"ab^c.."}},
		{"7 of two digits", "\x1b[07mb", 0, 1, []string{"b^...."}},
		{"7 twice", "\x1b[7m\x1b[7mb\x1b[mc", 0, 2, []string{"b^c..."}},
		{"0", "\x1b[7ma\x1b[0mb", 0, 2, []string{"a^b..."}},
		{"00", "\x1b[7ma\x1b[00mb", 0, 2, []string{"a^b..."}},
		{"27", "\x1b[7ma\x1b[27mb", 0, 2, []string{"a^b..."}},
		{"0 at first", "\x1b[ma", 0, 1, []string{"a...."}},
		{"others", "\x1b[7ma\x1b[1m\x1b[2m\x1b[17m\x1b[26m\x1b[28m\x1b[70m\x1b[77mb", 0, 2, []string{"a^b^..."}},
		{"others, where it does not mark", "\x1b[1m\x1b[2m\x1b[17m\x1b[70m\x1b[77ma", 0, 1, []string{"a...."}},
		{"7 among more", "\x1b[0;7ma\x1b[7;mb\x1b[;7mc\x1b[007md", 0, 4, []string{"abcd."}},
		{"a blank", "\x1b[7m \x1b[m ", 0, 2, []string{"_^_..."}},
		{"a wide one", "\x1b[7m一\x1b[mb", 0, 3, []string{"一^<^b.."}},
		{"a wide one that does not fit any more", "abcd\x1b[7m一", 1, 2, []string{"abcd.", "一^<^..."}},
		{"of width 0", "a\x1b[7m\u0301\x1b[mb", 0, 2, []string{"ab..."}},
		{"over what is marked", "\x1b[7mabc\x1b[m\r\x1b[Cx", 0, 2, []string{"a^xc^.."}},
		{"over a wide one that is not marked", "一\r\x1b[7mx", 0, 1, []string{"x^...."}},
		{"over a right half", "一\r\x1b[C\x1b[7mx", 0, 2, []string{".x^..."}},
		{"over a wide one that is marked", "\x1b[7m一\x1b[m\rx", 0, 1, []string{"x...."}},
		{"over a right half that is marked", "\x1b[7m一\r\x1b[Cx", 0, 2, []string{".x^..."}},
		{"a wide one over two halves", "一二\r\x1b[C\x1b[7m三", 0, 3, []string{".三^<^.."}},
		{"K", "abcd\x1b[2D\x1b[7m\x1b[K", 0, 2, []string{"ab.^.^.^"}},
		{"K, where it does not mark", "\x1b[7mabcd\x1b[2D\x1b[m\x1b[K", 0, 2, []string{"a^b^..."}},
		{"K of wide ones", "一二\r\x1b[7m\x1b[K", 0, 0, []string{".^.^.^.^.^"}},
		{"K from a right half on", "一二\r\x1b[C\x1b[7m\x1b[K", 0, 1, []string{"..^.^.^.^"}},
		{"J, and rows again", "abcdefghijkl\x1b[7m\x1b[A\x1b[J\n\x1b[mx", 2, 3, []string{"abcde", "fg.^.^.^", "..x.."}},
		{"X", "abcd\r\x1b[7m\x1b[2X", 0, 0, []string{".^.^cd."}},
		{"X of a left half", "一二\r\x1b[7m\x1b[X", 0, 0, []string{".^.二<."}},
		{"X of a right half", "一二\r\x1b[C\x1b[7m\x1b[X", 0, 1, []string{"..^二<."}},
		{"X of a left half that is marked", "\x1b[7m一二\r\x1b[m\x1b[X", 0, 0, []string{"..二^<^."}},
		{"X of a right half that is marked", "\x1b[7m一二\r\x1b[C\x1b[X", 0, 1, []string{"..^二^<^."}},
		{"X of two halves", "一二\r\x1b[C\x1b[7m\x1b[2X", 0, 1, []string{"..^.^.."}},
		{"rows that are made are empty", "\x1b[7m\na\x1b[B\n", 2, 1, []string{".....", "a^....", "....."}},
	} {
		x := made(t, 5)
		x.Feed(c.s)
		shows(t, "P22.2: marks: "+c.what, x, c.row, c.col, c.want...)
	}
}

// What is none of the sequences does nothing, as far as it is a key; what is behind it is told.
func TestNothing(t *testing.T) {
	for b := range 0x20 {
		if b == '\r' || b == '\n' || b == 0x1b {
			continue
		}
		x := made(t, 5)
		x.Feed("\x1b[7ma" + string(rune(b)) + "b")
		shows(t, "P22.2: bytes below 20: "+strconv.Itoa(b), x, 0, 2, "a^b^...")
	}
	for _, s := range []string{
		"\x7f", "\x80", "\xbf", "\xc0\x80", "\xc1", "\xf5", "\xff", "\xc2\x80", "\xc2\x9f", "\xe0\x80\x80", "\xe0\x9f\xbf", "\xed\xa0\x80", "\xed\xbf\xbf", "\xf0\x80\x80\x80", "\xf0\x8f\xbf\xbf", "\xf4\x90\x80\x80", "\xf4\xbf\xbf\xbf", "\xe4\xb8", "\xc3", "\xf0\x9f\x98", "\xe4\xe4\xb8",
		"\x1b\x1b\x7f", "\x1bA", "\x1bx", "\x1b ", "\x1b~", "\x1b\x7f", "\x1b\xff", "\x1b\x07", "\x1b\xc3",
		"\x1bOA", "\x1bOH", "\x1bOF", "\x1bOm", "\x1bO\r", "\x1bO\n", "\x1bO\x1b", "\x1bO\xe4",
		"\x1b[H", "\x1b[F", "\x1b[3~", "\x1b[1~", "\x1b[E", "\x1b[Z", "\x1b[a", "\x1b[k", "\x1b[M", "\x1b[x", "\x1b[5H", "\x1b[\r", "\x1b[\n", "\x1b[\x1b", "\x1b[2\x1b", "\x1b[\xe4", "\x1b[ ", "\x1b[?", "\x1b[-", "\x1b[[",
		"\x1b[001D", "\x1b[100D", "\x1b[1000D", "\x1b[000m", "\x1b[;D", "\x1b[1;D", "\x1b[;1D", "\x1b[1;1D", "\x1b[0;0m", "\x1b[;m", "\x1b[12345", "\x1b[;;;;;", "\x1b[00000",
	} {
		x := made(t, 5)
		x.Feed("\x1b[7ma" + s + "bc")
		shows(t, "P22.2: "+strconv.Quote(s), x, 0, 3, "a^b^c^..")
	}
	x := made(t, 9)
	x.Feed("\x1b[12345Da\x1b\r\x1b[C\x1b\nb\x1b\x1b[Cc\xe4\x1b[De\xc3\rf")
	shows(t, "P22.2: what is behind", x, 1, 1, "Da.......", "fb.e.....")
}

// The bytes of what is not whole wait.
func TestWaits(t *testing.T) {
	x := made(t, 5)
	for _, step := range []struct {
		s   string
		col int
		row string
	}{
		{"a\xe4", 1, "a...."}, {"", 1, "a...."}, {"\xb8", 1, "a...."}, {"\x80", 3, "a一<.."}, {"\x1b", 3, "a一<.."}, {"", 3, "a一<.."}, {"[", 3, "a一<.."}, {"2", 3, "a一<.."}, {"", 3, "a一<.."}, {"D", 1, "a一<.."},
		{"\x1b[0", 1, "a一<.."}, {"0X", 1, "a...."}, {"\x1b", 1, "a...."}, {"\r", 0, "a...."}, {"\x1b[7", 0, "a...."}, {"mb\x1b", 1, "b^...."}, {"[", 1, "b^...."}, {"mc\x1b[1234", 2, "b^c..."}, {"5d\x1bO", 3, "b^cd.."}, {"He\xf0\x9f\x98", 4, "b^cde."}, {"\x1b[D", 3, "b^cde."}, {"\xc3", 3, "b^cde."}, {"f", 4, "b^cdf."},
	} {
		x.Feed(step.s)
		shows(t, "P22.2: behind "+strconv.Quote(step.s), x, 0, step.col, step.row)
	}
}

func TestManyRows(t *testing.T) {
	for what, line := range map[string]string{"0a": "\n", "rows that are full": "ab", "wide ones": "一"} {
		x := made(t, 2)
		x.Feed(strings.Repeat(line, 199))
		x.Feed("\r")
		n := len(x.Rows())
		x.Feed("\n\r")
		if row, col := x.Cursor(); n < 199 || len(x.Rows()) != 200 || row != 199 || col != 0 {
			t.Errorf("P22.2: %s: %d rows, and %d; %d, %d", what, n, len(x.Rows()), row, col)
		}
		for _, s := range []string{"\n", "\n\n\n", "\x1b[B", "\x1b[99B"} {
			x.Feed(s)
			if row, col := x.Cursor(); len(x.Rows()) != 200 || row != 199 || col != 0 {
				t.Errorf("P22.2: %s: behind %q %d rows; %d, %d", what, s, len(x.Rows()), row, col)
			}
		}
		mayBe(t, what, x)
	}
	x := made(t, 3)
	x.Feed(strings.Repeat("\n", 198) + "ab")
	for _, c := range []struct {
		s        string
		row, col int
		last     []string
	}{
		{"c", 198, 3, []string{"abc"}}, {"d", 199, 1, []string{"abc", "d.."}}, {"ef", 199, 3, []string{"abc", "def"}}, {"g", 199, 1, []string{"abc", "gef"}}, {"h", 199, 2, []string{"abc", "ghf"}}, {"一", 199, 2, []string{"abc", "一<f"}}, {"一", 199, 2, []string{"abc", "一<f"}},
		{"xy", 199, 1, []string{"abc", "y.x"}}, {"\x1b[A\x1b[J", 198, 1, []string{"a.."}}, {"\nz", 199, 2, []string{"a..", ".z."}},
	} {
		x.Feed(c.s)
		l := show(x.Rows())
		if row, col := x.Cursor(); len(l) < 199 || len(l) > 200 || !slices.Equal(l[198:], c.last) || row != c.row || col != c.col {
			t.Errorf("P22.2: behind %q %d rows, %q; %d, %d", c.s, len(l), l[198:], row, col)
		}
		mayBe(t, c.s, x)
	}
	x = made(t, 512)
	x.Feed(strings.Repeat("abcdefghi", 512*200/9))
	if l := x.Rows(); len(l) != 200 || l[199][0].Rune == 0 {
		t.Errorf("P22.2: %d rows", len(l))
	}
	mayBe(t, "as much as may be", x)
}

// spot is a cell's place, slow a terminal by the document's words: cells by their places.
type spot struct{ row, col int }

type slow struct {
	width, rows int
	at          spot
	marks       bool
	cells       map[spot]api.Cell
}

func (s *slow) isWide(at spot) bool { return cells.Width(s.cells[at].Rune) == 2 }

func (s *slow) wipe(at spot) {
	ahead, behind := spot{at.row, at.col - 1}, spot{at.row, at.col + 1}
	if s.isWide(at) {
		delete(s.cells, behind)
	}
	if s.isWide(ahead) {
		delete(s.cells, ahead)
	}
	s.cells[at] = api.Cell{Mark: s.marks}
}

func (s *slow) wipeTo(end int) {
	for col := s.at.col; col < min(end, s.width); col++ {
		s.wipe(spot{s.at.row, col})
	}
}

func (s *slow) next() {
	if s.at.row < 199 {
		s.at.row++
		s.rows = max(s.rows, s.at.row+1)
	}
}

func (s *slow) put(r int) {
	size := cells.Width(r)
	if size == 0 {
		return
	}
	if s.at.col+size > s.width {
		s.at.col = 0
		s.next()
	}
	s.wipeTo(s.at.col + size)
	s.cells[s.at] = api.Cell{Rune: r, Mark: s.marks}
	if size == 2 {
		s.cells[spot{s.at.row, s.at.col + 1}] = api.Cell{Rune: -1, Mark: s.marks}
	}
	s.at.col += size
}

func (s *slow) sequence(number int, letter string) {
	n := number
	if n == 0 {
		n = 1
	}
	switch letter {
	case "A":
		s.at.row = max(0, s.at.row-n)
	case "B":
		s.at.row = min(s.rows-1, s.at.row+n)
	case "C":
		s.at.col = min(s.width-1, s.at.col+n)
	case "D":
		s.at.col = max(0, s.at.col-n)
	case "K":
		s.wipeTo(s.width)
	case "J":
		s.wipeTo(s.width)
		s.rows = s.at.row + 1
		for at := range s.cells {
			if at.row >= s.rows {
				delete(s.cells, at)
			}
		}
	case "X":
		s.wipeTo(s.at.col + n)
	case "m":
		s.marks = number == 7 || s.marks && number != 0 && number != 27
	}
}

// Bytes are looked at as runes of the same numbers, so that each one can be named.
var (
	unended  = regexp.MustCompile(`^(\x1b|\x1b\[[0-9;]{0,4}|\x1bO|[\xc2-\xf4]|[\xe0-\xf4][\x80-\xbf]|[\xf0-\xf4][\x80-\xbf]{2})$`)
	first    = regexp.MustCompile(`^(?s:\x1b\[[0-9;]{0,4}[^0-9;]|\x1b\[[0-9;]{5}|\x1bO.|\x1b[\x20-\x7f]|\x1b|[\xc2-\xdf][\x80-\xbf]?|[\xe0-\xef][\x80-\xbf]{0,2}|[\xf0-\xf4][\x80-\xbf]{0,3}|.)`)
	sequence = regexp.MustCompile(`^\x1b\[([0-9]{0,2})([ABCDKJXm])$`)
)

func named(s string) string {
	var b strings.Builder
	for i := range len(s) {
		b.WriteRune(rune(s[i]))
	}
	return b.String()
}

func bytesOf(s string) string {
	var b []byte
	for _, c := range s {
		b = append(b, byte(c))
	}
	return string(b)
}

// feed is told of a whole stream at once.
func (s *slow) feed(text string) {
	for text = named(text); text != "" && !unended.MatchString(text); {
		piece := first.FindString(text)
		text = text[len(piece):]
		code := sequence.FindStringSubmatch(piece)
		r, size := utf8.DecodeRuneInString(bytesOf(piece))
		switch {
		case code != nil:
			number, _ := strconv.Atoi(code[1])
			s.sequence(number, code[2])
		case piece == "\r":
			s.at.col = 0
		case piece == "\n":
			s.next()
		case piece[0] != 0x1b && size == len(bytesOf(piece)) && (r != utf8.RuneError || size == 3):
			s.put(int(r))
		}
	}
}

func (s *slow) screen() [][]api.Cell {
	var l [][]api.Cell
	for row := range s.rows {
		var cells []api.Cell
		for col := range s.width {
			cells = append(cells, s.cells[spot{row, col}])
		}
		l = append(l, cells)
	}
	return l
}

func (s *slow) holds(t *testing.T, what string, x *Term, text string) {
	t.Helper()
	l := x.Rows()
	row, col := x.Cursor()
	if want := s.screen(); !slices.EqualFunc(l, want, slices.Equal[[]api.Cell]) || s.at != (spot{row, col}) {
		t.Fatalf("%s: width %d, %q: %q, %d, %d; not %q, %v", what, s.width, text, show(l), row, col, show(want), s.at)
	}
	mayBe(t, what, x)
}

func plain(width int) *slow {
	return &slow{width: width, rows: 1, cells: map[spot]api.Cell{}}
}

func TestAgainstModel(t *testing.T) {
	x := source(22)
	for round := range 4000 {
		s := x.bytes(1 + x.below(60))
		if round%50 == 0 {
			s = strings.Repeat("\n", 190+x.below(12)) + s + s
		}
		width := 2 + x.below(6)
		want := plain(width)
		want.feed(s)
		whole, cut := made(t, width), made(t, width)
		whole.Feed(s)
		want.holds(t, "P22.2", whole, s)
		for from := 0; from < len(s); {
			to := from + x.below(4)
			if round%2 == 0 {
				to = from + 1
			}
			to = min(to, len(s))
			cut.Feed(s[from:to])
			from = to
		}
		want.holds(t, "P22.3: cut", cut, s)
	}
}

// Each step of a stream, so that what is wrong between is not wiped later.
func TestStepsAgainstModel(t *testing.T) {
	x := source(23)
	for range 300 {
		width := 2 + x.below(4)
		term, want, all := made(t, width), plain(width), ""
		for range 40 {
			s := x.bytes(1)
			if unended.MatchString(named(s)) {
				s += "\x18" // ends what it may, and does nothing
			}
			all += s
			term.Feed(s)
			want.feed(s)
			want.holds(t, "P22.2", term, all)
		}
	}
}

// All texts of a few pieces, on a screen with a wide one at each place.
func TestAllShort(t *testing.T) {
	some := []string{"a", "一", "\r", "\n", "\x1b[A", "\x1b[B", "\x1b[C", "\x1b[D", "\x1b[K", "\x1b[J", "\x1b[X", "\x1b[2X", "\x1b[7m", "\x1b[m"}
	var all func(s string, n int)
	all = func(s string, n int) {
		want, x := plain(4), made(t, 4)
		want.feed(s)
		x.Feed(s)
		want.holds(t, "P22.2", x, s)
		if n == 0 {
			return
		}
		for _, piece := range some {
			all(s+piece, n-1)
		}
	}
	for _, head := range []string{"", "一二\r", "a一b\r", "abc一\x1b[A", "一二三四\x1b[A\x1b[2D"} {
		all(head, 3)
	}
}

// What was answered is the caller's: whatever is written to it, its spare room too, the terminal goes on as it would.
func TestMemory(t *testing.T) {
	x := source(5)
	term, other := made(t, 5), made(t, 5)
	for range 500 {
		s := x.bytes(1 + x.below(6))
		kept := term.Rows()
		was := show(kept)
		term.Feed(s)
		other.Feed(s)
		if !slices.Equal(show(kept), was) {
			t.Fatalf("R5: %q changed what was answered ahead of it: %q, not %q", s, show(kept), was)
		}
		l := term.Rows()
		want := show(l)
		for i := range l {
			row := l[i][:cap(l[i])]
			for j := range row {
				row[j] = api.Cell{Rune: '!', Mark: true}
			}
			if i+1 < len(l) && !slices.Equal(show(l[i+1:]), want[i+1:]) {
				t.Fatalf("R5: what was written to row %d stands in another one", i)
			}
		}
		l = l[:cap(l)]
		clear(l)
		row, col := term.Cursor()
		otherRow, otherCol := other.Cursor()
		if got := show(term.Rows()); !slices.Equal(got, want) || !slices.Equal(got, show(other.Rows())) || row != otherRow || col != otherCol {
			t.Fatalf("R5, R6: %q: %q, not %q, %q", s, got, want, show(other.Rows()))
		}
	}
}

func TestTwoTerminals(t *testing.T) {
	a, b := made(t, 3), made(t, 3)
	a.Feed("\x1b[7ma\x1b")
	b.Feed("[Dx")
	shows(t, "R6: the other one", b, 0, 3, "[Dx")
	a.Feed("\x1b[Cx")
	shows(t, "R6: the first one", a, 0, 3, "a^.x^")
}
