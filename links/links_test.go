package links

import (
	"math"
	"slices"
	"strings"
	"testing"
	"unsafe"

	"duet/api"
)

// source makes numbers that are the same in each run.
type source uint64

func (x *source) below(n int) int {
	*x = *x*6364136223846793005 + 1442695040888963407
	return int(*x>>33) % n
}

func (x *source) text() string {
	b := make([]byte, x.below(4))
	for i := range b {
		b[i] = byte(x.below(256))
	}
	return string(b)
}

func mustNew(t *testing.T, sites, room int) *Net {
	t.Helper()
	n, e := New(sites, room)
	if n == nil || e != api.OK {
		t.Fatalf("P5.1: New(%d, %d): %d", sites, room, e)
	}
	return n
}

func mustSend(t *testing.T, n *Net, from, to int, texts ...string) {
	t.Helper()
	for _, s := range texts {
		if e := n.Send(from, to, s); e != api.OK {
			t.Fatalf("P5.2: Send(%d, %d, %.20q): %d", from, to, s, e)
		}
	}
}

// has takes out all that a link has, and holds it against want.
func has(t *testing.T, what string, n *Net, from, to int, want ...string) {
	t.Helper()
	if l := n.Len(from, to); l != len(want) {
		t.Errorf("%s: the link %d %d has %d, not %d", what, from, to, l, len(want))
	}
	var got []string
	for n.Len(from, to) > 0 {
		s, is := n.Take(from, to, 0)
		if !is {
			t.Fatalf("%s: the link %d %d has none to take", what, from, to)
		}
		got = append(got, s)
	}
	if !slices.Equal(got, want) {
		t.Errorf("%s: the link %d %d has %.200q, not %.200q", what, from, to, got, want)
	}
}

// isNone holds that there is no such link, whichever call asks.
func isNone(t *testing.T, n *Net, from, to int) {
	t.Helper()
	if e := n.Send(from, to, "a"); e != api.ErrArg {
		t.Errorf("P5.1: Send(%d, %d): %d", from, to, e)
	}
	if e := n.Double(from, to, 0); e != api.ErrArg {
		t.Errorf("P5.1: Double(%d, %d): %d", from, to, e)
	}
	if s, is := n.Take(from, to, 0); s != "" || is {
		t.Errorf("P5.1, R3: Take(%d, %d): %q, %v", from, to, s, is)
	}
	if n.Turn(from, to, 0, 0, 1) {
		t.Errorf("P5.1: Turn(%d, %d)", from, to)
	}
	if l := n.Len(from, to); l != 0 {
		t.Errorf("P5.1: Len(%d, %d): %d", from, to, l)
	}
}

func TestNew(t *testing.T) {
	for _, sites := range []int{math.MinInt, -1, 0, 1, 2, 15, 16, 17, 1000, math.MaxInt} {
		for _, room := range []int{math.MinInt, -1, 0, 1, 2, 999, 1000, 1001, math.MaxInt} {
			n, e := New(sites, room)
			if sites >= 1 && sites <= 16 && room >= 1 && room <= 1000 {
				if n == nil || e != api.OK {
					t.Errorf("P5.1: New(%d, %d): %d", sites, room, e)
				}
			} else if n != nil || e != api.ErrArg {
				t.Errorf("P5.1: New(%d, %d): %v, %d", sites, room, n, e)
			}
		}
	}
}

func TestLinks(t *testing.T) {
	ends := []int{math.MinInt, -16, -1, 0, 1, 2, 3, 14, 15, 16, 17, math.MaxInt}
	for _, sites := range []int{1, 2, 3, 15, 16} {
		n := mustNew(t, sites, 1)
		for _, from := range ends {
			for _, to := range ends {
				if from >= 0 && from < sites && to >= 0 && to < sites && from != to {
					has(t, "P5.1: a new one", n, from, to)
					mustSend(t, n, from, to, "a")
					has(t, "P5.1", n, from, to, "a")
				} else {
					isNone(t, n, from, to)
				}
			}
		}
	}
}

func TestNil(t *testing.T) {
	var none *Net
	var zero Net
	for _, n := range []*Net{none, &zero} {
		for from := -1; from < 3; from++ {
			for to := -1; to < 3; to++ {
				isNone(t, n, from, to)
			}
			if k := n.Cast(from, "a"); k != 0 {
				t.Errorf("P5.1, R1: nil: Cast(%d): %d", from, k)
			}
		}
	}
}

func TestRoom(t *testing.T) {
	for _, room := range []int{1, 2, 3, 999, 1000} {
		n := mustNew(t, 2, room)
		for i := range room {
			if l := n.Len(1, 0); l != i {
				t.Fatalf("P5.1: %d, not %d", l, i)
			}
			mustSend(t, n, 1, 0, "a")
		}
		for range 3 {
			if e := n.Send(1, 0, "b"); e != api.ErrFull {
				t.Errorf("P5.2: room %d: %d", room, e)
			}
			if e := n.Send(1, 0, strings.Repeat("b", 5001)); e != api.ErrArg {
				t.Errorf("R2: room %d: %d", room, e)
			}
			if e := n.Double(1, 0, 0); e != api.ErrFull {
				t.Errorf("P5.3: room %d: %d", room, e)
			}
			if e := n.Double(1, 0, room); e != api.ErrNone {
				t.Errorf("R2: room %d: %d", room, e)
			}
		}
		n.Take(1, 0, room-1)
		mustSend(t, n, 1, 0, "last")
		if s, is := n.Take(1, 0, room-1); s != "last" || !is {
			t.Errorf("P5.2, R3: room %d: %q, %v", room, s, is)
		}
		has(t, "P5.2, R3: what was full", n, 1, 0, slices.Repeat([]string{"a"}, room-1)...)
	}
}

func TestLongTexts(t *testing.T) {
	n := mustNew(t, 3, 10)
	for _, l := range []int{5001, 5002, 10000, 100000} {
		s := strings.Repeat("x", l)
		if e := n.Send(0, 1, s); e != api.ErrArg {
			t.Errorf("P5.2: %d bytes: %d", l, e)
		}
		if k := n.Cast(0, s); k != 0 {
			t.Errorf("P5.2: %d bytes cast: %d", l, k)
		}
	}
	var texts []string
	for _, l := range []int{0, 1, 4999, 5000} {
		texts = append(texts, strings.Repeat("\xff", l))
	}
	mustSend(t, n, 0, 1, texts...)
	has(t, "P5.2", n, 0, 1, texts...)
	has(t, "P5.2: too long", n, 0, 2)
}

func TestCast(t *testing.T) {
	for sites := 1; sites <= 16; sites++ {
		for from := range sites {
			n := mustNew(t, sites, 2)
			if k := n.Cast(from, "a"); k != sites-1 {
				t.Errorf("P5.2: of %d: %d", sites, k)
			}
			for one := range sites {
				for other := range sites {
					if one == from && other != from {
						has(t, "P5.2: cast", n, one, other, "a")
					} else {
						has(t, "P5.4: not cast", n, one, other)
					}
				}
			}
		}
		n := mustNew(t, sites, 2)
		for _, from := range []int{math.MinInt, -1, sites, sites + 1, math.MaxInt} {
			if k := n.Cast(from, "a"); k != 0 {
				t.Errorf("P5.2: Cast(%d) of %d: %d", from, sites, k)
			}
		}
	}
}

// Who has no room is passed over, and not counted.
func TestCastFull(t *testing.T) {
	n := mustNew(t, 4, 2)
	mustSend(t, n, 2, 0, "1", "2")
	mustSend(t, n, 2, 3, "3")
	for i, want := range []int{2, 1, 0, 0} {
		if k := n.Cast(2, "c"); k != want {
			t.Errorf("P5.2: cast %d: %d, not %d", i, k, want)
		}
	}
	has(t, "P5.2", n, 2, 0, "1", "2")
	has(t, "P5.2", n, 2, 1, "c", "c")
	has(t, "P5.2", n, 2, 3, "3", "c")
}

func TestTake(t *testing.T) {
	n := mustNew(t, 2, 9)
	mustSend(t, n, 0, 1, "a", "b", "", "d")
	for _, i := range []int{math.MinInt, -1, 4, 5, 9, math.MaxInt} {
		if s, is := n.Take(0, 1, i); s != "" || is {
			t.Errorf("P5.3, R3: Take of %d: %q, %v", i, s, is)
		}
	}
	for _, c := range []struct {
		i    int
		want string
	}{{1, "b"}, {1, ""}, {1, "d"}, {0, "a"}} {
		if s, is := n.Take(0, 1, c.i); s != c.want || !is {
			t.Errorf("P5.3: Take of %d: %q, %v", c.i, s, is)
		}
	}
	if s, is := n.Take(0, 1, 0); s != "" || is {
		t.Errorf("P5.3: of an empty link: %q, %v", s, is)
	}
	mustSend(t, n, 0, 1, "e")
	has(t, "P5.3", n, 0, 1, "e")
}

func TestDouble(t *testing.T) {
	n := mustNew(t, 2, 5)
	if e := n.Double(0, 1, 0); e != api.ErrNone {
		t.Errorf("P5.3: of an empty link: %d", e)
	}
	mustSend(t, n, 0, 1, "a", "b", "c")
	for _, i := range []int{math.MinInt, -1, 3, 4, 5, math.MaxInt} {
		if e := n.Double(0, 1, i); e != api.ErrNone {
			t.Errorf("P5.3: Double of %d: %d", i, e)
		}
	}
	for _, i := range []int{1, 3} {
		if e := n.Double(0, 1, i); e != api.OK {
			t.Errorf("P5.3: Double of %d: %d", i, e)
		}
	}
	has(t, "P5.3", n, 0, 1, "a", "b", "c", "b", "b")
}

func TestTurn(t *testing.T) {
	n := mustNew(t, 2, 5)
	if n.Turn(0, 1, 0, 0, 1) {
		t.Error("P5.3: Turn on an empty link")
	}
	mustSend(t, n, 0, 1, "abc", "", "\x00\xff")
	for _, c := range [][2]int{{-1, 0}, {3, 0}, {math.MinInt, 0}, {math.MaxInt, 0}, {0, -1}, {0, 3}, {0, math.MinInt}, {0, math.MaxInt}, {1, 0}, {1, -1}, {2, 2}} {
		if n.Turn(0, 1, c[0], c[1], 0xff) {
			t.Errorf("P5.3: Turn of %v", c)
		}
	}
	for _, c := range []struct {
		i, at int
		by    byte
	}{{0, 0, 3}, {0, 2, 0x80}, {0, 1, 0}, {2, 0, 0xff}, {2, 1, 0x0f}, {2, 1, 0x80}} {
		if !n.Turn(0, 1, c.i, c.at, c.by) {
			t.Errorf("P5.3: Turn of %v", c)
		}
	}
	has(t, "P5.3", n, 0, 1, "bb\xe3", "", "\xff\x70")
	for by := range 256 {
		mustSend(t, n, 1, 0, "\xa5")
		n.Turn(1, 0, 0, 0, byte(by))
		has(t, "P5.3", n, 1, 0, string([]byte{byte(0xa5 ^ by)}))
	}
}

// A text that is there more than once is turned at one place alone.
func TestTurnedAlone(t *testing.T) {
	n := mustNew(t, 4, 5)
	s := strings.Repeat("k", 40)
	turned := "K" + s[1:]
	n.Cast(0, s)
	n.Double(0, 1, 0)
	n.Double(0, 1, 1)
	n.Turn(0, 1, 1, 0, 0x20)
	n.Turn(0, 3, 0, 0, 0x20)
	n.Double(0, 3, 0)
	n.Turn(0, 3, 0, 0, 0x20)
	has(t, "P5.4", n, 0, 1, s, turned, s)
	has(t, "P5.4", n, 0, 2, s)
	has(t, "P5.4", n, 0, 3, s, turned)
	if s != strings.Repeat("k", 40) {
		t.Errorf("R5: what was sent is changed: %q", s)
	}
}

// one is a text on its way, as a slow network has it: all links' texts in one row.
type one struct {
	from, to int
	s        string
}

type slow struct {
	sites, room int
	row         []one
}

// at are the places in the row of a link's texts.
func (m *slow) at(from, to int) []int {
	var l []int
	for i, o := range m.row {
		if o.from == from && o.to == to {
			l = append(l, i)
		}
	}
	return l
}

func (m *slow) link(from, to int) bool {
	return from >= 0 && to >= 0 && from < m.sites && to < m.sites && from != to
}

func (m *slow) send(from, to int, s string) api.Errno {
	if !m.link(from, to) {
		return api.ErrArg
	}
	if len(m.at(from, to)) == m.room {
		return api.ErrFull
	}
	m.row = append(m.row, one{from, to, s})
	return api.OK
}

// step does the same at both networks, and holds what they answer against each other.
func step(t *testing.T, x *source, n *Net, m *slow) {
	t.Helper()
	from, to, i := x.below(m.sites+2)-1, x.below(m.sites+2)-1, x.below(m.room+2)-1
	at := m.at(from, to)
	there := i >= 0 && i < len(at)
	switch x.below(6) {
	case 0, 1:
		s := x.text()
		if got, want := n.Send(from, to, s), m.send(from, to, s); got != want {
			t.Errorf("P5.2: Send(%d, %d): %d, not %d", from, to, got, want)
		}
	case 2:
		s, want := x.text(), 0
		for to := range m.sites {
			if m.send(from, to, s) == api.OK {
				want++
			}
		}
		if k := n.Cast(from, s); k != want {
			t.Errorf("P5.2: Cast(%d): %d, not %d", from, k, want)
		}
	case 3:
		want := ""
		if there {
			want = m.row[at[i]].s
			m.row = slices.Delete(m.row, at[i], at[i]+1)
		}
		if s, is := n.Take(from, to, i); s != want || is != there {
			t.Errorf("P5.3, P5.4: Take(%d, %d, %d): %q, %v; not %q, %v", from, to, i, s, is, want, there)
		}
	case 4:
		want := api.ErrNone
		if !m.link(from, to) {
			want = api.ErrArg
		} else if there {
			want = m.send(from, to, m.row[at[i]].s)
		}
		if e := n.Double(from, to, i); e != want {
			t.Errorf("P5.3: Double(%d, %d, %d): %d, not %d", from, to, i, e, want)
		}
	default:
		b, by := x.below(5)-1, byte(x.below(256))
		want := there && b >= 0 && b < len(m.row[at[i]].s)
		if want {
			s := []byte(m.row[at[i]].s)
			s[b] ^= by
			m.row[at[i]].s = string(s)
		}
		if n.Turn(from, to, i, b, by) != want {
			t.Errorf("P5.3: Turn(%d, %d, %d, %d): %v", from, to, i, b, !want)
		}
	}
}

func TestScripts(t *testing.T) {
	x := source(1)
	for range 300 {
		m := &slow{sites: 1 + x.below(4), room: 1 + x.below(4)}
		n := mustNew(t, m.sites, m.room)
		for range 200 {
			step(t, &x, n, m)
			for from := -1; from <= m.sites; from++ {
				for to := -1; to <= m.sites; to++ {
					if l := n.Len(from, to); l != len(m.at(from, to)) {
						t.Errorf("P5.1, P5.4: Len(%d, %d): %d", from, to, l)
					}
				}
			}
		}
		for from := range m.sites {
			for to := range m.sites {
				var want []string
				for _, i := range m.at(from, to) {
					want = append(want, m.row[i].s)
				}
				has(t, "P5.4: at the end", n, from, to, want...)
			}
		}
		if t.Failed() {
			return
		}
	}
}

func TestMemory(t *testing.T) {
	text := []byte(strings.Repeat("k", 40))
	s := unsafe.String(&text[0], len(text))
	n, other := mustNew(t, 3, 5), mustNew(t, 3, 5)
	n.Send(0, 1, s)
	n.Cast(0, s)
	n.Turn(0, 2, 0, 0, 1)
	if string(text) != strings.Repeat("k", 40) {
		t.Errorf("R5: what was handed in is changed: %q", text)
	}
	clear(text)
	n.Double(0, 1, 0)
	one, _ := n.Take(0, 1, 0)
	two, _ := n.Take(0, 1, 1)
	for _, got := range []string{one, two} {
		if got != strings.Repeat("k", 40) {
			t.Errorf("R5: what was handed in is kept: %q", got)
		}
	}
	if unsafe.StringData(one) == unsafe.StringData(two) {
		t.Error("R5: two answers share memory")
	}
	has(t, "R6: one network is changed by another one", other, 0, 1)
}
