package past

import (
	"math"
	"slices"
	"strconv"
	"strings"
	"testing"

	"duet/api"
)

const most = 1<<32 - 1

// source makes numbers that are the same in each run.
type source uint64

func (x *source) below(n int) int {
	*x = *x*6364136223846793005 + 1442695040888963407
	return int(*x>>33) % n
}

func newLog(t *testing.T) *Log {
	t.Helper()
	l := New()
	if l == nil {
		t.Fatalf("P16.1: New: nil")
	}
	return l
}

func add(t *testing.T, what string, l *Log, epoch int, text string, want api.Errno) {
	t.Helper()
	before := l.All()
	if e := l.Add(epoch, text); e != want {
		t.Fatalf("%s: Add(%d, %.20q): %d, not %d", what, epoch, text, e, want)
	}
	if want == api.OK {
		before = append(before, text)
	}
	if after := l.All(); !slices.Equal(after, before) {
		t.Fatalf("%s, R3: Add(%d, %.20q) left %d lines, not %d", what, epoch, text, len(after), len(before))
	}
}

// has also looks for lines where there are none.
func has(t *testing.T, what string, l *Log, want ...string) {
	t.Helper()
	if all := l.All(); !slices.Equal(all, want) {
		t.Fatalf("%s: All: %q, not %q", what, all, want)
	}
	for epoch, text := range want {
		if s, is := l.Get(epoch); s != text || !is {
			t.Fatalf("%s: Get(%d): %q, %v, not %q", what, epoch, s, is, text)
		}
	}
	for _, epoch := range []int{-1, len(want), len(want) + 1, most, math.MinInt, math.MaxInt} {
		if s, is := l.Get(epoch); s != "" || is {
			t.Fatalf("%s: Get(%d): %q, %v", what, epoch, s, is)
		}
	}
}

func TestNew(t *testing.T) {
	l := newLog(t)
	has(t, "P16.1: new", l)
	add(t, "P16.1", l, 0, "ls", api.OK)
	has(t, "P16.1: another one", newLog(t))
}

func TestNilLog(t *testing.T) {
	var l *Log
	for _, epoch := range []int{0, 1, -1, math.MinInt, math.MaxInt} {
		add(t, "P16.1, R1: nil", l, epoch, "ls", api.ErrArg)
	}
	has(t, "P16.1, R1: nil", l)
}

func TestExample(t *testing.T) {
	l := newLog(t)
	add(t, "example 1", l, 0, "ls", api.OK)
	add(t, "example 1", l, 0, "ls", api.ErrOld)
	add(t, "example 1", l, 0, "rm", api.ErrDeny)
	has(t, "example 1", l, "ls")
}

func TestAdd(t *testing.T) {
	l, long := newLog(t), strings.Repeat("x", 20000)
	for _, epoch := range []int{1, 2, most, most + 1, math.MaxInt} {
		add(t, "P16.1: above all", l, epoch, "ls", api.ErrNone)
	}
	for _, epoch := range []int{-1, -2, math.MinInt} {
		add(t, "P16.1: below 0", l, epoch, "ls", api.ErrArg)
	}
	for _, epoch := range []int{0, 1, -1, math.MaxInt} {
		add(t, "P16.1, R2: too long", l, epoch, long+"x", api.ErrArg)
	}
	add(t, "P16.1: no byte", l, 0, "", api.OK)
	add(t, "P16.1: as long as may be", l, 1, long, api.OK)
	add(t, "P16.1: whatever bytes", l, 2, "\xff\x00é", api.OK)
	add(t, "P16.1: a line that was", l, 3, "", api.OK)
	has(t, "P16.1", l, "", long, "\xff\x00é", "")

	add(t, "P16.1: again", l, 0, "", api.ErrOld)
	add(t, "P16.1: again", l, 1, long, api.ErrOld)
	add(t, "P16.1: another one", l, 0, "x", api.ErrDeny)
	add(t, "P16.1: another one", l, 1, long[1:], api.ErrDeny)
	add(t, "P16.1: another one", l, 2, "\xff\x00e", api.ErrDeny)
	add(t, "P16.1: another one, though it is another epoch's", l, 2, "", api.ErrDeny)
	add(t, "P16.1, R2: too long, ahead of ErrDeny", l, 1, long+"x", api.ErrArg)
	add(t, "P16.1: above all", l, 5, "ls", api.ErrNone)
	has(t, "P16.1", l, "", long, "\xff\x00é", "")
}

func TestFull(t *testing.T) {
	l := newLog(t)
	for i := range 10000 {
		if e := l.Add(i, strconv.Itoa(i)); e != api.OK {
			t.Fatalf("P16.1: Add(%d): %d", i, e)
		}
	}
	add(t, "P16.1: full", l, 10000, "ls", api.ErrFull)
	add(t, "P16.1, R2: ErrNone ahead of ErrFull", l, 10001, "ls", api.ErrNone)
	add(t, "P16.1, R2: ErrArg ahead of ErrFull", l, 10000, strings.Repeat("x", 20001), api.ErrArg)
	add(t, "P16.1: full, but again", l, 9999, "9999", api.ErrOld)
	add(t, "P16.1: full, but another one", l, 0, "1", api.ErrDeny)
	if all := l.All(); len(all) != 10000 || all[9999] != "9999" || all[1234] != "1234" {
		t.Errorf("P16.1: %d lines", len(all))
	}
}

func TestPrefix(t *testing.T) {
	for i, c := range []struct {
		a, b []string
		want bool
	}{
		{nil, nil, true},
		{nil, []string{}, true},
		{[]string{}, nil, true},
		{nil, []string{"a"}, true},
		{[]string{"a"}, nil, false},
		{[]string{""}, nil, false},
		{[]string{"a"}, []string{"a"}, true},
		{[]string{"a"}, []string{"a", "b"}, true},
		{[]string{"a", "b"}, []string{"a"}, false},
		{[]string{"a", ""}, []string{"a"}, false},
		{[]string{"b"}, []string{"a", "b"}, false},
		{[]string{"b", "a"}, []string{"a", "b"}, false},
		{[]string{"a", "c"}, []string{"a", "b", "c"}, false},
		{[]string{"c", "b"}, []string{"a", "b", "c"}, false},
		{[]string{"a"}, []string{"ab"}, false},
		{[]string{"ab"}, []string{"a"}, false},
		{[]string{"ab"}, []string{"a", "b"}, false},
		{[]string{"", "\xff"}, []string{"", "\xff", ""}, true},
		{[]string{"", "\xff"}, []string{"", "\xfe", ""}, false},
	} {
		if is := Prefix(c.a, c.b); is != c.want {
			t.Errorf("P16.2: case %d: Prefix(%q, %q): %v", i, c.a, c.b, is)
		}
	}
	// b's spare room is no part of it.
	room := []string{"a", "b", "c"}
	if Prefix(room, room[:2]) || !Prefix(room[:2], room) {
		t.Errorf("P16.2: spare room")
	}
	if !slices.Equal(room, []string{"a", "b", "c"}) {
		t.Errorf("R5: Prefix changed what it was given: %q", room)
	}
}

// Logs that take the same lines, each in an order of its own: some come too early, and come again.
func TestLogsBegin(t *testing.T) {
	r := source(16)
	for range 300 {
		logs := make([]*Log, 3)
		for i := range logs {
			logs[i] = newLog(t)
		}
		for range 100 {
			l, epoch := logs[r.below(3)], r.below(12)
			e, lines := l.Add(epoch, strconv.Itoa(epoch)), len(l.All())
			if early := epoch >= lines; early != (e == api.ErrNone) || !early && e != api.OK && e != api.ErrOld {
				t.Fatalf("P16.4: Add(%d) of a log of then %d: %d", epoch, lines, e)
			}
			for _, a := range logs {
				b := l
				if len(a.All()) > len(b.All()) {
					a, b = b, a
				}
				if !Prefix(a.All(), b.All()) {
					t.Fatalf("P16.4: %q does not begin %q", a.All(), b.All())
				}
			}
		}
	}
}

func TestMemory(t *testing.T) {
	l := newLog(t)
	var want []string
	for i := range 9 {
		for range 2 {
			all := l.All()
			all = append(all, "spoilt")[:cap(all)]
			for j := range all {
				all[j] = "spoilt"
			}
			has(t, "R5: what is answered is new", l, want...)
		}
		first, second := l.All(), l.All()
		add(t, "R5", l, i, strconv.Itoa(i), api.OK)
		if !slices.Equal(first, want) {
			t.Errorf("R5: Add changed what was answered ahead of it: %q", first)
		}
		first = append(first, "a")
		second = append(second, "b")
		if first[i] != "a" || second[i] != "b" {
			t.Errorf("R5: two answers share room")
		}
		want = append(want, strconv.Itoa(i))
		has(t, "R5", l, want...)
	}
}

func TestSameAgain(t *testing.T) {
	run := func() []api.Errno {
		r, l := source(1), newLog(t)
		var errors []api.Errno
		for range 300 {
			errors = append(errors, l.Add(r.below(8), strconv.Itoa(r.below(3))))
		}
		return errors
	}
	if !slices.Equal(run(), run()) {
		t.Errorf("R6: the same again is another one")
	}
}
