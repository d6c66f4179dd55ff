package view

import (
	"math"
	"slices"
	"testing"
	"unicode/utf8"

	"duet/api"
)

// source makes numbers that are the same in each run.
type source uint64

func (x *source) below(n int) int {
	*x = *x*6364136223846793005 + 1442695040888963407
	return int(*x>>33) % n
}

func id(time, site int) api.Id { return api.Id{Time: time, Site: site} }

func element(x api.Id, rune int, users ...int) api.Element {
	return api.Element{Id: x, Rune: rune, Users: users}
}

// example is a, b (gone), c.
func example() []api.Element {
	return []api.Element{element(id(1, 0), 'a'), element(id(2, 0), 'b', 3), element(id(3, 0), 'c')}
}

func looks(t *testing.T, what string, l []api.Element, numbers []int, text string) {
	t.Helper()
	if s := Seen(l); !slices.Equal(s, numbers) {
		t.Errorf("%s: Seen: %v, not %v", what, s, numbers)
	}
	if s := Text(l); s != text {
		t.Errorf("%s: Text: %q, not %q", what, s, text)
	}
}

func ref(t *testing.T, what string, l []api.Element, i int, x api.Id, want api.Errno) {
	t.Helper()
	if got, e := Ref(l, i); got != x || e != want {
		t.Errorf("%s: Ref(%d): %v, %d, not %v, %d", what, i, got, e, x, want)
	}
}

func index(t *testing.T, what string, l []api.Element, x api.Id, place int, want api.Errno) {
	t.Helper()
	if got, e := Index(l, x); got != place || e != want {
		t.Errorf("%s: Index(%v): %d, %d, not %d, %d", what, x, got, e, place, want)
	}
}

func ranges(t *testing.T, what string, l []api.Element, from, to int, ids []api.Id, want api.Errno) {
	t.Helper()
	if got, e := Range(l, from, to); !slices.Equal(got, ids) || e != want {
		t.Errorf("%s: Range(%d, %d): %v, %d, not %v, %d", what, from, to, got, e, ids, want)
	}
}

func TestSeenAndText(t *testing.T) {
	looks(t, "P12.1: example 1", example(), []int{0, 2}, "ac")
	looks(t, "P12.1, R1: nil", nil, nil, "")
	looks(t, "P12.1: empty", []api.Element{}, nil, "")
	looks(t, "P12.1: all gone", []api.Element{element(id(1, 0), 'a', 0), element(id(2, 0), 'b', 0, 1)}, nil, "")
	looks(t, "P12.1: the first and the last gone", []api.Element{element(id(1, 0), 'a', 0), element(id(2, 0), 'b'), element(id(3, 0), 'c', 15)}, []int{1}, "b")
	looks(t, "P12.1: an empty list of users is none", []api.Element{{Id: id(1, 0), Rune: 'a', Users: []int{}}, {Id: id(2, 0), Rune: 'b', Users: make([]int, 0, 5)}}, []int{0, 1}, "ab")
	looks(t, "P12.1: users that may not be are some", []api.Element{element(id(1, 0), 'a', -1), element(id(2, 0), 'b', 99), element(id(3, 0), 'c', 2, 2)}, nil, "")
	looks(t, "P12.1: elements of one Id", []api.Element{element(id(1, 0), 'a'), element(id(1, 0), 'a'), element(id(0, 0), 'z')}, []int{0, 1, 2}, "aaz")
}

// U+FFFD is written as three bytes; a rune has 32 bits, so that what is cut to them must not be taken for it.
func TestRunes(t *testing.T) {
	const none = "\xef\xbf\xbd"
	for _, c := range []struct {
		rune int
		want string
	}{
		{0, "\x00"},
		{'a', "a"},
		{0x7f, "\x7f"},
		{0x80, "\xc2\x80"},
		{0x7ff, "\xdf\xbf"},
		{0x800, "\xe0\xa0\x80"},
		{0x20ac, "\xe2\x82\xac"},
		{0xd7ff, "\xed\x9f\xbf"},
		{0xd800, none},
		{0xdbff, none},
		{0xdfff, none},
		{0xe000, "\xee\x80\x80"},
		{0xfffd, none},
		{0xffff, "\xef\xbf\xbf"},
		{0x10000, "\xf0\x90\x80\x80"},
		{0x10ffff, "\xf4\x8f\xbf\xbf"},
		{0x110000, none},
		{-1, none},
		{1 << 31, none},
		{1<<31 + 'a', none},
		{1 << 32, none},
		{1<<32 + 'a', none},
		{1<<33 - 1, none},
		{-1<<32 + 'a', none},
		{math.MinInt, none},
		{math.MinInt + 'a', none},
		{math.MaxInt, none},
	} {
		looks(t, "P12.1", []api.Element{element(id(1, 0), 'x'), element(id(2, 0), c.rune), element(id(3, 0), c.rune, 1), element(id(4, 0), 'y')}, []int{0, 1, 3}, "x"+c.want+"y")
	}
}

func TestRef(t *testing.T) {
	for i, want := range []api.Id{{}, id(1, 0), id(3, 0)} {
		ref(t, "P12.2: example 1", example(), i, want, api.OK)
	}
	for _, i := range []int{math.MinInt, -2, -1, 3, 4, 1 << 32, math.MaxInt} {
		ref(t, "P12.2, R3", example(), i, api.Id{}, api.ErrArg)
	}
	gone := []api.Element{element(id(1, 0), 'a', 0)}
	for _, l := range [][]api.Element{nil, {}, gone} {
		ref(t, "P12.2: nothing is seen", l, 0, api.Id{}, api.OK)
		ref(t, "P12.2: nothing is seen", l, 1, api.Id{}, api.ErrArg)
		ref(t, "P12.2: nothing is seen", l, -1, api.Id{}, api.ErrArg)
	}
	twice := []api.Element{element(id(2, 1), 'a'), element(id(0, 0), 'b'), element(id(2, 1), 'c'), element(id(-4, 77), 'd')}
	for i, want := range []api.Id{{}, id(2, 1), {}, id(2, 1), id(-4, 77)} {
		ref(t, "P12.2: any Ids", twice, i, want, api.OK)
	}
	ref(t, "P12.2: any Ids", twice, 5, api.Id{}, api.ErrArg)
}

func TestIndex(t *testing.T) {
	for i, want := range []int{0, 1, 1, 2} {
		index(t, "P12.2: example 1", example(), id(i, 0), want, api.OK)
	}
	for _, x := range []api.Id{id(4, 0), id(1, 1), id(0, 1), id(-1, 0), id(math.MaxInt, math.MinInt)} {
		index(t, "P12.2, R3", example(), x, 0, api.ErrNone)
	}
	for _, l := range [][]api.Element{nil, {}} {
		index(t, "P12.2: of nothing", l, id(0, 0), 0, api.OK)
		index(t, "P12.2: of nothing", l, id(1, 0), 0, api.ErrNone)
	}
	gone := []api.Element{element(id(1, 0), 'a', 0), element(id(2, 0), 'b'), element(id(3, 0), 'c', 0)}
	for i, want := range []int{0, 0, 1, 1} {
		index(t, "P12.2: some are gone", gone, id(i, 0), want, api.OK)
	}
	twice := []api.Element{element(id(5, 0), 'x'), element(id(2, 1), 'a', 4), element(id(0, 0), 'b'), element(id(2, 1), 'c'), element(id(5, 0), 'x')}
	index(t, "P12.2: the first one of that Id", twice, id(2, 1), 1, api.OK)
	index(t, "P12.2: the first one of that Id", twice, id(5, 0), 1, api.OK)
	index(t, "P12.2: the zero Id is the begin", twice, id(0, 0), 0, api.OK)
	odd := []api.Element{element(id(1, 0), 'a'), element(id(-4, 77), 'd')}
	index(t, "P12.2: any Ids", odd, id(-4, 77), 2, api.OK)
}

func TestRange(t *testing.T) {
	l := []api.Element{element(id(9, 0), 'z', 1), element(id(1, 0), 'a'), element(id(2, 0), 'b', 3), element(id(3, 0), 'c'), element(id(4, 0), 'd'), element(id(5, 0), 'e', 0, 1)}
	all := []api.Id{id(1, 0), id(3, 0), id(4, 0)}
	for from := range 4 {
		for to := range 4 {
			if from <= to {
				ranges(t, "P12.3", l, from, to, all[from:to], api.OK)
			} else {
				ranges(t, "P12.3, R3: from is above to", l, from, to, nil, api.ErrArg)
			}
		}
	}
	for _, wrong := range []int{math.MinInt, -2, -1, 4, 5, 6, 1 << 32, math.MaxInt} {
		for right := range 4 {
			ranges(t, "P12.3, R3: no place", l, wrong, right, nil, api.ErrArg)
			ranges(t, "P12.3, R3: no place", l, right, wrong, nil, api.ErrArg)
		}
		ranges(t, "P12.3, R3: no place", l, wrong, wrong, nil, api.ErrArg)
	}
	for _, l := range [][]api.Element{nil, {}, l[:1]} {
		ranges(t, "P12.3: nothing is seen", l, 0, 0, nil, api.OK)
		ranges(t, "P12.3: nothing is seen", l, 0, 1, nil, api.ErrArg)
		ranges(t, "P12.3: nothing is seen", l, 1, 1, nil, api.ErrArg)
		ranges(t, "P12.3: nothing is seen", l, 1, 0, nil, api.ErrArg)
	}
	twice := []api.Element{element(id(0, 0), 'a'), element(id(7, 7), 'b'), element(id(7, 7), 'c')}
	ranges(t, "P12.3: any Ids", twice, 0, 3, []api.Id{id(0, 0), id(7, 7), id(7, 7)}, api.OK)
}

// some are elements whose Ids are not zero, and each once (1009 is a prime, and n below it).
func some(r *source, n int) []api.Element {
	var l []api.Element
	for i := range n {
		e := element(id(1+i*7%1009, r.below(16)), r.below(0x120000))
		for range r.below(3) {
			e.Users = append(e.Users, r.below(16))
		}
		l = append(l, e)
	}
	return l
}

// text is a text in other words than the program's.
func text(l []api.Element) string {
	var b []byte
	for _, e := range l {
		b = utf8.AppendRune(b, rune(e.Rune))
	}
	return string(b)
}

func TestAgainstModel(t *testing.T) {
	r := source(1)
	for n := range 40 {
		l := some(&r, 7*n+1)
		var numbers []int
		var stay []api.Element
		var ids []api.Id
		for i, e := range l {
			if e.Users == nil {
				numbers, stay, ids = append(numbers, i), append(stay, e), append(ids, e.Id)
			}
		}
		looks(t, "P12.1", l, numbers, text(stay))
		for i, x := range ids {
			ref(t, "P12.2", l, i+1, x, api.OK)
		}
		for i, e := range l {
			place, _ := slices.BinarySearch(numbers, i+1)
			index(t, "P12.2", l, e.Id, place, api.OK)
		}
		for range 20 {
			from, to := r.below(len(ids)+1), r.below(len(ids)+1)
			from, to = min(from, to), max(from, to)
			ranges(t, "P12.3", l, from, to, ids[from:to], api.OK)
		}
		ranges(t, "P12.3", l, 0, len(ids)+1, nil, api.ErrArg)
		ref(t, "P12.2", l, len(ids)+1, api.Id{}, api.ErrArg)
	}
}

func TestIndexOfRef(t *testing.T) {
	r := source(2)
	for n := range 60 {
		l := some(&r, 3*n+1)
		for place := range len(Seen(l)) + 1 {
			x, e := Ref(l, place)
			if e != api.OK {
				t.Fatalf("P12.2: Ref(%d): %d", place, e)
			}
			index(t, "P12.4: Index of Ref", l, x, place, api.OK)
		}
	}
}

func clone(l []api.Element) []api.Element {
	l = slices.Clone(l)
	for i := range l {
		l[i].Users = slices.Clone(l[i].Users)
	}
	return l
}

func same(a, b []api.Element) bool {
	return slices.EqualFunc(a, b, func(a, b api.Element) bool {
		return a.Id == b.Id && a.Ref == b.Ref && a.Rune == b.Rune && slices.Equal(a.Users, b.Users)
	})
}

func TestMemory(t *testing.T) {
	r := source(3)
	l := some(&r, 50)
	kept := clone(l)
	numbers, text := Seen(l), Text(l)
	ids, _ := Range(l, 1, len(numbers)-1)
	again, _ := Range(l, 1, len(numbers)-1)
	for i := range numbers[:cap(numbers)] {
		numbers[:cap(numbers)][i] = -9
	}
	for i := range ids[:cap(ids)] {
		ids[:cap(ids)][i] = id(-9, -9)
	}
	Ref(l, 3)
	Index(l, id(3, 3))
	if !same(l, kept) {
		t.Error("R5: what was handed in was changed")
	}
	want, e := Range(l, 1, len(numbers)-1)
	if !slices.Equal(again, want) || e != api.OK || Text(l) != text {
		t.Error("R5, R6: not the same again")
	}
	clear(l)
	if !slices.Equal(again, want) || Text(kept) != text {
		t.Error("R5: an answer has memory of what was handed in")
	}
}
