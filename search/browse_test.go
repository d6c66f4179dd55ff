package search

import (
	"slices"
	"strconv"
	"testing"
)

func stands(t *testing.T, what string, b *Browse, line string) {
	t.Helper()
	for range 2 {
		if l := b.Line(); l != line {
			t.Fatalf("P19.4: %s: Line: %q, not %q", what, l, line)
		}
	}
}

// goes is told of a step, and holds what it told and where it leads to against what is to be.
func goes(t *testing.T, what string, step func() bool, want bool, b *Browse, line string) {
	t.Helper()
	if told := step(); told != want {
		t.Fatalf("P19.4: %s: %v, not %v", what, told, want)
	}
	stands(t, what, b, line)
}

func TestStart(t *testing.T) {
	for _, lines := range [][]string{nil, {}, {""}, {"a", "b"}} {
		for _, own := range []string{"", "own", "\xff\x00"} {
			b := Start(lines, own)
			if b == nil {
				t.Fatalf("P19.4: Start: nil")
			}
			stands(t, "it stands at own", b, own)
			goes(t, "Down of own", b.Down, false, b, own)
		}
	}
}

func TestUpAndDown(t *testing.T) {
	b := Start([]string{"a", "", "c"}, "own")
	for _, line := range []string{"c", "", "a"} {
		goes(t, "Up", b.Up, true, b, line)
	}
	goes(t, "Up at the first one", b.Up, false, b, "a")
	goes(t, "Up at the first one", b.Up, false, b, "a")
	for _, line := range []string{"", "c", "own"} {
		goes(t, "Down", b.Down, true, b, line)
	}
	goes(t, "Down at own", b.Down, false, b, "own")
	goes(t, "Down at own", b.Down, false, b, "own")
	goes(t, "Up behind what stayed", b.Up, true, b, "c")
}

func TestEdit(t *testing.T) {
	b := Start([]string{"a", "b"}, "own")
	b.Edit("mine")
	stands(t, "own is edited", b, "mine")
	goes(t, "Up", b.Up, true, b, "b")
	b.Edit("B")
	stands(t, "a line is edited", b, "B")
	goes(t, "Up", b.Up, true, b, "a")
	goes(t, "P19.5: down again", b.Down, true, b, "B")
	b.Edit("")
	stands(t, "edited again, to nothing", b, "")
	goes(t, "Down", b.Down, true, b, "mine")
	b.Edit("\xff\x00é")
	goes(t, "P19.5: up again", b.Up, true, b, "")
	goes(t, "Up", b.Up, true, b, "a")
	b.Edit("A")
	goes(t, "Up at the first one", b.Up, false, b, "A")
	goes(t, "Down", b.Down, true, b, "")
	goes(t, "P19.5: down again", b.Down, true, b, "\xff\x00é")
}

func TestEditIsForOneAlone(t *testing.T) {
	room := []string{"a", "b", "c"}
	b, other := Start(room[:2], "own"), Start(room[:2], "own")
	s := New(room)
	b.Edit("mine")
	goes(t, "Up", b.Up, true, b, "b")
	b.Edit("B")
	if !slices.Equal(room, []string{"a", "b", "c"}) {
		t.Errorf("R5: Edit changed what was handed in: %q", room)
	}
	stands(t, "another one", other, "own")
	goes(t, "another one's Up", other.Up, true, other, "b")
	says(t, "P19.4: a search has its own lines", s.Type('b'), true)
	at(t, "its own lines", s, "b", 1, "b")
	room[0], room[1], room[2] = "spoilt", "spoilt", "spoilt"
	goes(t, "R5: Up", b.Up, true, b, "a")
	goes(t, "R5: another one's Up", other.Up, true, other, "a")
}

func TestNoLinesToBrowse(t *testing.T) {
	for what, b := range map[string]*Browse{"no lines": Start(nil, ""), "one that Start did not make": {}} {
		goes(t, what+": Up", b.Up, false, b, "")
		goes(t, what+": Down", b.Down, false, b, "")
		b.Edit("x")
		stands(t, what+": edited", b, "x")
		goes(t, what+": Up", b.Up, false, b, "x")
	}
}

func TestNilBrowse(t *testing.T) {
	var b *Browse
	goes(t, "R1: Up of nil", b.Up, false, b, "")
	goes(t, "R1: Down of nil", b.Down, false, b, "")
	b.Edit("x")
	stands(t, "R1: Edit of nil", b, "")
}

// What was edited is there still, however it is gone up and down.
func TestBrowseModel(t *testing.T) {
	x := source(4)
	for range 500 {
		lines := x.lines(x.below(8))
		all := append(slices.Clone(lines), "own")
		b, i := Start(lines, "own"), len(lines)
		for n := range 60 {
			switch x.below(5) {
			case 0, 1:
				want := i > 0
				i = max(i-1, 0)
				goes(t, "P19.5: Up", b.Up, want, b, all[i])
			case 2, 3:
				want := i < len(lines)
				i = min(i+1, len(lines))
				goes(t, "P19.5: Down", b.Down, want, b, all[i])
			case 4:
				all[i] = strconv.Itoa(n)
				b.Edit(all[i])
				stands(t, "P19.5: Edit", b, all[i])
			}
		}
	}
}
