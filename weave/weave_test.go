package weave

import (
	"math"
	"slices"
	"testing"

	"duet/api"
)

const most = 1<<32 - 1

// source makes numbers that are the same in each run.
type source uint64

func (x *source) below(n int) int {
	*x = *x*6364136223846793005 + 1442695040888963407
	return int(*x>>33) % n
}

func id(time, site int) api.Id { return api.Id{Time: time, Site: site} }

func element(x, ref api.Id, rune int) api.Element {
	return api.Element{Id: x, Ref: ref, Rune: rune}
}

func same(a, b []api.Element) bool {
	return slices.EqualFunc(a, b, func(a, b api.Element) bool {
		return a.Id == b.Id && a.Ref == b.Ref && a.Rune == b.Rune && a.Users == nil && b.Users == nil
	})
}

func later(a, b api.Id) bool { return a.Time > b.Time || a.Time == b.Time && a.Site > b.Site }

// model is a line in other words than the program's: a list in its order. A new one goes right behind its ref, and on past all that is later than it is: for what is another one's own is later than that one.
type model []api.Element

func (m model) at(x api.Id) int {
	return slices.IndexFunc(m, func(e api.Element) bool { return e.Id == x })
}

func (m *model) insert(x, ref api.Id, rune int) api.Errno {
	at := m.at(ref) + 1
	switch {
	case m.at(x) >= 0:
		return api.ErrOld
	case ref != id(0, 0) && at == 0:
		return api.ErrNone
	case len(*m) == 4096:
		return api.ErrFull
	}
	for at < len(*m) && later((*m)[at].Id, x) {
		at++
	}
	*m = slices.Insert(*m, at, element(x, ref, rune))
	return api.OK
}

func (m *model) drop(x api.Id) api.Errno {
	at := m.at(x)
	if at < 0 {
		return api.ErrNone
	}
	if len(m.kids(x)) > 0 {
		return api.ErrDeny
	}
	*m = slices.Delete(*m, at, at+1)
	return api.OK
}

func (m model) kids(x api.Id) []api.Id {
	var l []api.Id
	for _, e := range m {
		if e.Ref == x {
			l = append(l, e.Id)
		}
	}
	return l
}

// holds looks at all that a line answers.
func holds(t *testing.T, what string, l *Line, m model) {
	t.Helper()
	if all := l.Elements(); !same(all, m) {
		t.Fatalf("%s: elements %v, not %v", what, all, m)
	}
	if l.Len() != len(m) {
		t.Fatalf("%s: %d elements, not %d", what, l.Len(), len(m))
	}
	for i, e := range m {
		if at, is := l.Place(e.Id); at != i || !is {
			t.Fatalf("%s: place of %v: %d, %v, not %d", what, e.Id, at, is, i)
		}
		if k := l.Kids(e.Id); !slices.Equal(k, m.kids(e.Id)) {
			t.Fatalf("%s: kids of %v: %v, not %v", what, e.Id, k, m.kids(e.Id))
		}
	}
	if k := l.Kids(id(0, 0)); !slices.Equal(k, m.kids(id(0, 0))) {
		t.Fatalf("%s: the begin's kids: %v, not %v", what, k, m.kids(id(0, 0)))
	}
	for _, x := range []api.Id{{}, id(0, 1), id(-1, 0), id(most, 15), id(most+1, 0), id(1, 16), id(math.MinInt, math.MaxInt)} {
		if at, is := l.Place(x); m.at(x) < 0 && (at != 0 || is) {
			t.Fatalf("%s, R3: place of %v, that is not there: %d, %v", what, x, at, is)
		}
		if k := l.Kids(x); x != id(0, 0) && m.at(x) < 0 && len(k) != 0 {
			t.Fatalf("%s: kids of %v, that is not there: %v", what, x, k)
		}
	}
}

func insert(t *testing.T, what string, l *Line, x, ref api.Id, rune int, want api.Errno) {
	t.Helper()
	if e := l.Insert(x, ref, rune); e != want {
		t.Fatalf("%s: Insert(%v, %v, %d): %d, not %d", what, x, ref, rune, e, want)
	}
}

func drop(t *testing.T, what string, l *Line, x api.Id, want api.Errno) {
	t.Helper()
	if e := l.Drop(x); e != want {
		t.Fatalf("%s: Drop(%v): %d, not %d", what, x, e, want)
	}
}

func TestNew(t *testing.T) {
	l := New()
	if l == nil {
		t.Fatal("P11.1: New is nil")
	}
	holds(t, "P11.1: new", l, nil)
	drop(t, "P11.2: new", l, id(1, 0), api.ErrNone)
	drop(t, "P11.2: new", l, id(0, 0), api.ErrNone)
	insert(t, "P11.1: new", l, id(1, 0), id(0, 0), 'a', api.OK)
	holds(t, "P11.1: another one", New(), nil)
}

func TestNil(t *testing.T) {
	var l *Line
	insert(t, "P11.1, R1: nil", l, id(1, 0), id(0, 0), 'a', api.ErrArg)
	insert(t, "P11.1, R1: nil", l, id(0, 0), id(0, 0), 0, api.ErrArg)
	drop(t, "P11.1, R1: nil", l, id(1, 0), api.ErrArg)
	drop(t, "P11.1, R1: nil", l, id(0, 0), api.ErrArg)
	holds(t, "P11.1, R1: nil", l, nil)
}

// A line that New did not make is an empty one.
func TestZero(t *testing.T) {
	l := &Line{}
	drop(t, "R1", l, id(1, 0), api.ErrNone)
	holds(t, "R1: zero", l, nil)
	insert(t, "R1", l, id(1, 0), id(0, 0), 'a', api.OK)
	holds(t, "R1: zero", l, model{element(id(1, 0), id(0, 0), 'a')})
	drop(t, "R1", l, id(1, 0), api.OK)
	holds(t, "R1: zero", l, nil)
}

func TestExample(t *testing.T) {
	l := New()
	insert(t, "P11.1", l, id(1, 0), id(0, 0), 'a', api.OK)
	insert(t, "P11.1", l, id(2, 0), id(0, 0), 'b', api.OK)
	holds(t, "P11.3: example 1", l, model{element(id(2, 0), id(0, 0), 'b'), element(id(1, 0), id(0, 0), 'a')})
}

// The site alone says which one is the greater, if two were made at one time.
func TestOrder(t *testing.T) {
	l := New()
	for _, e := range []api.Element{
		element(id(1, 1), id(0, 0), 'b'),
		element(id(1, 0), id(0, 0), 'a'),
		element(id(1, 2), id(0, 0), 'c'),
		element(id(2, 0), id(1, 1), 'd'),
		element(id(2, 15), id(1, 1), 'e'),
		element(id(3, 0), id(2, 0), 'f'),
		element(id(9, 0), id(2, 0), 'g'),
		element(id(4, 3), id(1, 1), 'h'),
	} {
		insert(t, "P11.1", l, e.Id, e.Ref, e.Rune, api.OK)
	}
	s := ""
	for _, e := range l.Elements() {
		s += string(rune(e.Rune))
	}
	if s != "cbhedgfa" {
		t.Errorf("P11.3: %s", s)
	}
	if k := l.Kids(id(1, 1)); !slices.Equal(k, []api.Id{id(4, 3), id(2, 15), id(2, 0)}) {
		t.Errorf("P11.3: kids, the greatest first: %v", k)
	}
	if k := l.Kids(id(0, 0)); !slices.Equal(k, []api.Id{id(1, 2), id(1, 1), id(1, 0)}) {
		t.Errorf("P11.3: the begin's kids, the greatest first: %v", k)
	}
}

func TestWrongInserts(t *testing.T) {
	l, m := New(), model{}
	for _, e := range []api.Element{element(id(5, 1), id(0, 0), 'a'), element(id(7, 2), id(5, 1), 'b')} {
		insert(t, "P11.1", l, e.Id, e.Ref, e.Rune, api.OK)
		m.insert(e.Id, e.Ref, e.Rune)
	}
	for _, c := range []struct {
		x, ref api.Id
		rune   int
		want   api.Errno
	}{
		{id(0, 0), id(0, 0), 'x', api.ErrArg},
		{id(0, 1), id(0, 0), 'x', api.ErrArg},
		{id(-1, 0), id(0, 0), 'x', api.ErrArg},
		{id(-1, 0), id(-2, 0), 'x', api.ErrArg},
		{id(math.MinInt, 0), id(0, 0), 'x', api.ErrArg},
		{id(most+1, 0), id(0, 0), 'x', api.ErrArg},
		{id(most+1, 0), id(5, 1), 'x', api.ErrArg},
		{id(math.MaxInt, 0), id(0, 0), 'x', api.ErrArg},
		{id(9, -1), id(0, 0), 'x', api.ErrArg},
		{id(9, 16), id(0, 0), 'x', api.ErrArg},
		{id(9, 0), id(0, 1), 'x', api.ErrArg},
		{id(9, 0), id(0, -1), 'x', api.ErrArg},
		{id(9, 0), id(-1, 0), 'x', api.ErrArg},
		{id(9, 0), id(5, -1), 'x', api.ErrArg},
		{id(9, 0), id(5, 16), 'x', api.ErrArg},
		{id(9, 0), id(math.MinInt, 0), 'x', api.ErrArg},
		{id(9, 0), id(most+1, 0), 'x', api.ErrArg},
		{id(most, 0), id(most, 1), 'x', api.ErrArg},
		{id(5, 2), id(5, 1), 'x', api.ErrArg}, // the Time alone must be below
		{id(5, 15), id(5, 1), 'x', api.ErrArg},
		{id(4, 0), id(5, 1), 'x', api.ErrArg},
		{id(9, 0), id(9, 0), 'x', api.ErrArg},
		{id(9, 0), id(0, 0), 31, api.ErrArg},
		{id(9, 0), id(0, 0), 0, api.ErrArg},
		{id(9, 0), id(0, 0), -1, api.ErrArg},
		{id(9, 0), id(0, 0), 0x7f, api.ErrArg},
		{id(9, 0), id(0, 0), 0x9f, api.ErrArg},
		{id(9, 0), id(0, 0), 0xd800, api.ErrArg},
		{id(9, 0), id(0, 0), 0xdfff, api.ErrArg},
		{id(9, 0), id(0, 0), 0x110000, api.ErrArg},
		{id(9, 0), id(0, 0), 1<<32 + 'a', api.ErrArg},
		{id(9, 0), id(0, 0), math.MaxInt, api.ErrArg},
		{id(5, 1), id(0, 0), 'x', api.ErrOld},
		{id(5, 1), id(0, 0), 'a', api.ErrOld},
		{id(7, 2), id(0, 0), 'x', api.ErrOld},
		{id(9, 0), id(5, 2), 'x', api.ErrNone},
		{id(9, 0), id(6, 1), 'x', api.ErrNone},
		{id(9, 0), id(8, 0), 'x', api.ErrNone},
		{id(7, 2), id(6, 6), 'x', api.ErrOld}, // R2: from here on what is named first
		{id(7, 2), id(6, 6), 31, api.ErrArg},
		{id(7, 2), id(7, 2), 'x', api.ErrArg},
		{id(5, 1), id(7, 2), 'x', api.ErrArg},
		{id(9, 0), id(6, 6), 31, api.ErrArg},
		{id(9, 0), id(9, 9), 'x', api.ErrArg},
	} {
		insert(t, "P11.1, R2", l, c.x, c.ref, c.rune, c.want)
		holds(t, "R3: with an error nothing changes", l, m)
	}
}

// What is at the edge of what may be, and still may.
func TestEdges(t *testing.T) {
	l, m := New(), model{}
	for _, e := range []api.Element{
		element(id(1, 0), id(0, 0), ' '),
		element(id(1, 15), id(0, 0), 0x7e),
		element(id(most, 15), id(0, 0), 0xa0),
		element(id(most-1, 0), id(1, 15), 0xd7ff),
		element(id(most, 0), id(most-1, 0), 0xe000),
		element(id(2, 0), id(1, 15), 0x10ffff),
		element(id(most, 1), id(1, 0), 0xfffd),
	} {
		insert(t, "P11.1", l, e.Id, e.Ref, e.Rune, api.OK)
		m.insert(e.Id, e.Ref, e.Rune)
		holds(t, "P11.3", l, m)
	}
}

func TestFull(t *testing.T) {
	l, m := New(), model{}
	for i := range 4096 { // half of them in a row, the others behind the begin
		ref := id(0, 0)
		if i > 0 && i < 2048 {
			ref = id(i, 0)
		}
		insert(t, "P11.1", l, id(i+1, 0), ref, 'a', api.OK)
		m.insert(id(i+1, 0), ref, 'a')
	}
	insert(t, "P11.1", l, id(5000, 0), id(0, 0), 'a', api.ErrFull)
	insert(t, "P11.1", l, id(5000, 0), id(7, 0), 'a', api.ErrFull)
	insert(t, "P11.1, R2", l, id(5000, 0), id(4999, 0), 'a', api.ErrNone)
	insert(t, "P11.1, R2", l, id(7, 0), id(0, 0), 'a', api.ErrOld)
	insert(t, "P11.1, R2", l, id(5000, 0), id(0, 0), 7, api.ErrArg)
	if l.Len() != 4096 || !same(l.Elements(), m) {
		t.Fatalf("P11.1, R3: %d elements", l.Len())
	}
	drop(t, "P11.2: full", l, id(7, 0), api.ErrDeny)
	drop(t, "P11.2: full", l, id(2048, 0), api.OK)
	insert(t, "P11.1: room again", l, id(5000, 0), id(7, 0), 'b', api.OK)
	insert(t, "P11.1", l, id(5001, 0), id(7, 0), 'b', api.ErrFull)
	m.drop(id(2048, 0))
	m.insert(id(5000, 0), id(7, 0), 'b')
	if l.Len() != 4096 || !same(l.Elements(), m) {
		t.Fatalf("P11.3: %d elements", l.Len())
	}
}

// As deep as a line can be: each one behind the one ahead of it.
func TestDeep(t *testing.T) {
	l := New()
	for i := range 4096 {
		insert(t, "P11.1", l, id(i+1, 0), id(i, 0), 'a'+i%26, api.OK)
	}
	for range 50 {
		all := l.Elements()
		if len(all) != 4096 {
			t.Fatalf("P11.3: %d elements", len(all))
		}
		for i, e := range all {
			if e.Id != id(i+1, 0) || e.Ref != id(i, 0) || e.Rune != 'a'+i%26 {
				t.Fatalf("P2, P11.3: what was put in a row does not stay in a row: %d: %v", i, e)
			}
		}
	}
	for i := range 4096 {
		if at, is := l.Place(id(i+1, 0)); at != i || !is {
			t.Fatalf("P11.3: %d: %d, %v", i, at, is)
		}
	}
	for i := 4096; i > 0; i-- {
		if i > 1 {
			drop(t, "P11.2: it has a kid", l, id(i-1, 0), api.ErrDeny)
		}
		drop(t, "P11.2", l, id(i, 0), api.OK)
		drop(t, "P11.2: dropped", l, id(i, 0), api.ErrNone)
	}
	holds(t, "P11.2", l, nil)
}

func TestDrop(t *testing.T) {
	l, m := New(), model{}
	for _, e := range []api.Element{
		element(id(1, 0), id(0, 0), 'a'),
		element(id(2, 0), id(1, 0), 'b'),
		element(id(3, 0), id(1, 0), 'c'),
		element(id(4, 0), id(1, 0), 'd'),
		element(id(2, 1), id(0, 0), 'e'),
	} {
		insert(t, "P11.1", l, e.Id, e.Ref, e.Rune, api.OK)
		m.insert(e.Id, e.Ref, e.Rune)
	}
	for _, x := range []api.Id{id(0, 0), id(0, 1), id(1, 1), id(9, 0), id(-1, 0), id(1, 16), id(most+1, 0), id(math.MaxInt, math.MinInt)} {
		drop(t, "P11.2", l, x, api.ErrNone)
		holds(t, "P11.2, R3", l, m)
	}
	for _, c := range []struct {
		x    api.Id
		want api.Errno
	}{
		{id(1, 0), api.ErrDeny},
		{id(3, 0), api.OK},
		{id(3, 0), api.ErrNone},
		{id(1, 0), api.ErrDeny},
		{id(4, 0), api.OK},
		{id(1, 0), api.ErrDeny},
		{id(2, 0), api.OK},
		{id(1, 0), api.OK},
		{id(1, 0), api.ErrNone},
	} {
		drop(t, "P11.2", l, c.x, c.want)
		m.drop(c.x)
		holds(t, "P11.2", l, m)
	}
	insert(t, "P11.2: it is not there", l, id(5, 0), id(1, 0), 'x', api.ErrNone)
	insert(t, "P11.2: it may come again", l, id(1, 0), id(0, 0), 'z', api.OK)
	m.insert(id(1, 0), id(0, 0), 'z')
	holds(t, "P11.2: it came again without its kids", l, m)
}

// Ids that often meet one another, and refs that often are there.
func someId(r *source, times int) api.Id {
	if r.below(20) == 0 {
		return id(r.below(3)-1, r.below(18)-1)
	}
	return id(1+r.below(times), r.below(4))
}

func TestAgainstModel(t *testing.T) {
	for run := range 60 {
		r := source(run + 1)
		l, m := New(), model{}
		for range 120 {
			x, ref, rune := someId(&r, 12), someId(&r, 12), 32+r.below(90)
			if r.below(3) == 0 {
				ref = id(0, 0)
			}
			if r.below(4) == 0 {
				drop(t, "P11.2", l, x, m.drop(x))
			} else {
				want := api.ErrArg
				if mayStand(x, ref) {
					want = m.insert(x, ref, rune)
				}
				insert(t, "P11.1", l, x, ref, rune, want)
			}
			holds(t, "P11.1 to P11.3", l, m)
		}
	}
}

func mayStand(x, ref api.Id) bool {
	names := func(x api.Id) bool { return x.Time >= 1 && x.Time <= most && x.Site >= 0 && x.Site <= 15 }
	return names(x) && (ref == id(0, 0) || names(ref) && ref.Time < x.Time)
}

// someLine are elements, each behind what it is behind.
func someLine(r *source, n int) []api.Element {
	var all []api.Element
	for len(all) < n {
		ref := id(0, 0)
		if k := r.below(len(all) + 1); k > 0 {
			ref = all[k-1].Id
		}
		x := id(ref.Time+1+r.below(4), r.below(16))
		if model(all).at(x) < 0 {
			all = append(all, element(x, ref, 32+r.below(90)))
		}
	}
	return all
}

// mixed puts elements into a line, in another order each time, and drops some that come again later.
func mixed(t *testing.T, r *source, all []api.Element) *Line {
	t.Helper()
	l := New()
	for waits := slices.Clone(all); len(waits) > 0; {
		i := r.below(len(waits))
		e := waits[i]
		ahead := l.Elements()
		if l.Insert(e.Id, e.Ref, e.Rune) == api.OK {
			waits = slices.Delete(waits, i, i+1)
			stays(t, "P11.4: one came", ahead, l.Elements())
		}
		x := all[r.below(len(all))]
		ahead = l.Elements()
		if r.below(3) == 0 && l.Drop(x.Id) == api.OK {
			waits = append(waits, x)
			stays(t, "P11.4: one was dropped", l.Elements(), ahead)
		}
	}
	return l
}

// stays: the greater list has all of the smaller one, in its order.
func stays(t *testing.T, what string, small, great []api.Element) {
	t.Helper()
	if len(great) != len(small)+1 {
		t.Fatalf("%s: %d elements, and %d", what, len(small), len(great))
	}
	i := 0
	for _, e := range great {
		if i < len(small) && e.Id == small[i].Id {
			i++
		}
	}
	if i < len(small) {
		t.Fatalf("%s: %v, %v", what, small, great)
	}
}

func TestMixed(t *testing.T) {
	for run := range 40 {
		r := source(run + 1)
		all := someLine(&r, 1+r.below(30))
		want := model{}
		for _, e := range all {
			want.insert(e.Id, e.Ref, e.Rune)
		}
		for range 8 {
			holds(t, "P11.4: another order", mixed(t, &r, all), want)
		}
	}
}

// What one site types in a row stays in a row, whatever others type at the same place.
func TestInARow(t *testing.T) {
	word := func(site int) []api.Element {
		var l []api.Element
		for i := range 5 {
			l = append(l, element(id(2+i, site), id(1+i, site), 'a'+i))
		}
		l[0].Ref = id(1, 0)
		return l
	}
	r := source(7)
	for range 20 {
		all := slices.Concat([]api.Element{element(id(1, 0), id(0, 0), 'A'), element(id(2, 5), id(1, 0), 'Z')}, word(1), word(2), word(3))
		s := ""
		for _, e := range mixed(t, &r, all).Elements() {
			s += string(rune(e.Rune))
		}
		if s != "AZabcdeabcdeabcde" {
			t.Fatalf("P2, P11.4: %s", s)
		}
	}
}

func TestMemory(t *testing.T) {
	l, m := New(), model{}
	for i := range 40 {
		insert(t, "P11.1", l, id(i+1, 0), id(i%5, 0), 'a', api.OK)
		m.insert(id(i+1, 0), id(i%5, 0), 'a')
	}
	spoil := func() {
		all := l.Elements()
		for i := range all[:cap(all)] {
			all[:cap(all)][i] = element(id(9, 9), id(8, 8), 'q')
		}
		for i := range 6 {
			kids := l.Kids(id(i, 0))
			for i := range kids[:cap(kids)] {
				kids[:cap(kids)][i] = id(9, 9)
			}
		}
	}
	spoil()
	holds(t, "R5: what was answered is changed", l, m)
	for i := 40; i < 60; i++ {
		kids := l.Kids(id(1, 0))
		insert(t, "P11.1", l, id(i+1, 0), id(1, 0), 'a', api.OK)
		m.insert(id(i+1, 0), id(1, 0), 'a')
		spoil()
		holds(t, "R5: what was answered is changed", l, m)
		if len(kids) > 0 && !slices.Equal(kids, l.Kids(id(1, 0))[1:]) {
			t.Fatalf("R5: what was answered was changed: %v", kids)
		}
	}
	kids, all := l.Kids(id(1, 0)), l.Elements()
	keptKids, keptAll := slices.Clone(kids), slices.Clone(all)
	drop(t, "P11.2", l, id(60, 0), api.OK)
	if !slices.Equal(kids, keptKids) || !same(all, keptAll) {
		t.Errorf("R5: what was answered was changed: %v", kids)
	}
}

// Of what was dropped nothing is kept: a line that is used for long is no greater than what is in it.
func TestNothingKept(t *testing.T) {
	l := New()
	for i := range 1000 {
		insert(t, "P11.1", l, id(2*i+1, 0), id(0, 0), 'a', api.OK)
		insert(t, "P11.1", l, id(2*i+2, 0), id(2*i+1, 0), 'a', api.OK)
		drop(t, "P11.2", l, id(2*i+2, 0), api.OK)
		drop(t, "P11.2", l, id(2*i+1, 0), api.OK)
	}
	if len(l.has) != 0 || len(l.kids) != 0 {
		t.Errorf("%d elements, kids of %d", len(l.has), len(l.kids))
	}
}

// R6: a line answers the same again, and so does another one that was told the same.
func TestSameAgain(t *testing.T) {
	r := source(3)
	all := someLine(&r, 200)
	a, b := New(), New()
	for _, e := range all {
		insert(t, "P11.1", a, e.Id, e.Ref, e.Rune, api.OK)
		insert(t, "P11.1", b, e.Id, e.Ref, e.Rune, api.OK)
	}
	want := a.Elements()
	for range 20 {
		if !same(a.Elements(), want) || !same(b.Elements(), want) {
			t.Fatal("R6: not the same again")
		}
	}
}
