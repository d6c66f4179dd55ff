package resend

import (
	"math"
	"reflect"
	"slices"
	"testing"

	"duet/api"
	"duet/hold"
	"duet/mesg"
	"duet/vec"
)

const most = 1<<32 - 1

// source makes numbers that are the same in each run.
type source uint64

func (x *source) below(n int) int {
	*x = *x*6364136223846793005 + 1442695040888963407
	return int(*x>>33) % n
}

// msg is a caret's message: Know's number of its site is put right.
func msg(site, seq int, know ...int) api.Msg {
	know = slices.Clone(know)
	know[site] = seq - 1
	return api.Msg{Site: site, Seq: seq, Know: know, Op: api.Op{Kind: api.Caret}}
}

func mustNew(t *testing.T, sites, room int) *Store {
	t.Helper()
	s, e := New(sites, room)
	if s == nil || e != api.OK {
		t.Fatalf("P8.1: New(%d, %d): %d", sites, room, e)
	}
	return s
}

func keep(t *testing.T, what string, s *Store, m api.Msg, want api.Errno) {
	t.Helper()
	if e := s.Keep(m); e != want {
		t.Errorf("%s: Keep(%v): %d, not %d", what, m, e, want)
	}
}

func drop(t *testing.T, what string, s *Store, v vec.Vec, n int, want api.Errno) {
	t.Helper()
	if got, e := s.Drop(v); got != n || e != want {
		t.Errorf("%s: Drop(%v): %d, %d, not %d, %d", what, v, got, e, n, want)
	}
}

// has holds that a store keeps just these messages, as they are.
func has(t *testing.T, what string, s *Store, want ...api.Msg) {
	t.Helper()
	if s.Len() != len(want) {
		t.Errorf("%s: %d are kept, not %d", what, s.Len(), len(want))
	}
	for _, m := range want {
		if got, is := s.Get(Ask{m.Site, m.Seq}); !is || !reflect.DeepEqual(got, m) {
			t.Errorf("%s: %v, %v, not %v", what, got, is, m)
		}
	}
}

func hasNone(t *testing.T, what string, s *Store, asks ...Ask) {
	t.Helper()
	for _, a := range asks {
		if m, is := s.Get(a); is || m.Site != 0 || m.Seq != 0 || len(m.Know) != 0 || m.Op != (api.Op{}) {
			t.Errorf("%s: Get(%v): %v, %v", what, a, m, is)
		}
	}
}

func TestNew(t *testing.T) {
	for _, sites := range []int{math.MinInt, -1, 0, 1, 2, 15, 16, 17, 1000, 1<<32 + 1, math.MaxInt} {
		for _, room := range []int{math.MinInt, -1, 0, 1, 2, 99999, 100000, 100001, 1<<32 + 1, math.MaxInt} {
			s, e := New(sites, room)
			if sites >= 1 && sites <= 16 && room >= 1 && room <= 100000 {
				if s == nil || e != api.OK || s.Len() != 0 {
					t.Errorf("P8.1: New(%d, %d): %d", sites, room, e)
				}
			} else if s != nil || e != api.ErrArg {
				t.Errorf("P8.1, R3: New(%d, %d): %v, %d", sites, room, s, e)
			}
		}
	}
}

func TestNil(t *testing.T) {
	var none *Store
	for _, s := range []*Store{none, {}} {
		for _, m := range []api.Msg{{}, msg(0, 1, 0), msg(1, 1, 0, 0)} {
			keep(t, "P8.1, R1: nil", s, m, api.ErrArg)
		}
		for _, v := range []vec.Vec{nil, {}, {0}, {1, 1}, {-1}} {
			drop(t, "P8.1, R1: nil", s, v, 0, api.ErrArg)
		}
		hasNone(t, "P8.1, R1: nil", s, Ask{}, Ask{0, 1}, Ask{-1, -1})
		if s.Len() != 0 {
			t.Errorf("P8.1, R1: nil: %d", s.Len())
		}
	}
}

// wrong are messages that may not be, or know of another number of sites than three.
func wrong() []api.Msg {
	l := []api.Msg{{}, {Seq: 1, Op: api.Op{Kind: api.Caret}}}
	for _, sites := range []int{1, 2, 4, 16, 17, 1000} {
		l = append(l, msg(0, 1, make([]int, sites)...))
	}
	for _, site := range []int{math.MinInt, -1, 3, 16, math.MaxInt} {
		l = append(l, api.Msg{Site: site, Seq: 1, Know: make([]int, 3), Op: api.Op{Kind: api.Caret}})
	}
	for _, seq := range []int{math.MinInt, -1, 0, most + 1, math.MaxInt} {
		l = append(l, msg(0, seq, 0, 0, 0))
	}
	for _, n := range []int{math.MinInt, -1, most + 1, math.MaxInt} {
		l = append(l, msg(0, 1, 0, 0, n), msg(0, 1, 0, n, 0))
	}
	off := msg(0, 1, 0, 0, 0)
	off.Know[0] = 1
	kind := msg(0, 1, 0, 0, 0)
	kind.Op.Kind = 9
	r := msg(0, 1, 0, 0, 0)
	r.Op.Rune = 'a'
	return append(l, off, kind, r)
}

func TestWrong(t *testing.T) {
	// With room and without, with one of that Site and Seq kept and without: it is wrong ahead of all that.
	for _, room := range []int{1, 2} {
		for _, kept := range []api.Msg{msg(0, 1, 0, 0, 0), msg(1, 1, 0, 0, 0)} {
			s := mustNew(t, 3, room)
			keep(t, "P8.2", s, kept, api.OK)
			for _, m := range wrong() {
				keep(t, "P8.2, R1, R2", s, m, api.ErrArg)
				has(t, "R3: one that may not be", s, kept)
				if m.Site != kept.Site || m.Seq != kept.Seq {
					hasNone(t, "R3: one that may not be", s, Ask{m.Site, m.Seq})
				}
			}
		}
	}
}

// One of each kind, and of the greatest numbers, is told as it was.
func TestKeepAndGet(t *testing.T) {
	id := func(time, site int) api.Id { return api.Id{Time: time, Site: site} }
	var all []api.Msg
	s := mustNew(t, 2, 20)
	for i, op := range []api.Op{
		{Kind: api.Insert, Epoch: 4, Id: id(300, 1), Ref: id(7, 0), Rune: 'a'},
		{Kind: api.Delete, Epoch: 1, Ref: id(7, 0)},
		{Kind: api.Undo, Epoch: 2, Ref: id(8, 1)},
		{Kind: api.Redo, Epoch: 3, Ref: id(9, 0)},
		{Kind: api.Caret, Epoch: most, Ref: id(most, 1)},
		{Kind: api.Propose, Epoch: 9, Id: id(11, 1)},
		{Kind: api.Ack, Epoch: 7, Ref: id(12, 0)},
		{Kind: api.Withdraw, Epoch: 8, Ref: id(13, 1)},
	} {
		m := msg(1, i+5, i*i, 0)
		m.Op = op
		all = append(all, m)
	}
	all = append(all, msg(0, 5, 0, 77), msg(0, most, 0, most), msg(1, most, most, 0), msg(0, 1, 0, 0))
	for i, m := range all {
		hasNone(t, "P8.2: not kept yet", s, Ask{m.Site, m.Seq})
		keep(t, "P8.2", s, m, api.OK)
		has(t, "P8.2, P8.4", s, all[:i+1]...)
	}
	hasNone(t, "P8.2: never kept", s, Ask{}, Ask{0, 2}, Ask{0, 6}, Ask{1, 4}, Ask{1, 13}, Ask{2, 5}, Ask{-1, 5}, Ask{16, 1}, Ask{0, 0}, Ask{0, -1}, Ask{0, most - 1}, Ask{0, most + 1}, Ask{math.MinInt, math.MinInt}, Ask{math.MaxInt, math.MaxInt}, Ask{5, 0}, Ask{0, 1<<32 + 1})
}

func TestOld(t *testing.T) {
	s := mustNew(t, 2, 3)
	first, second := msg(0, 2, 0, 0), msg(1, 2, 0, 0)
	keep(t, "P8.2", s, first, api.OK)
	keep(t, "P8.2: another site's", s, second, api.OK)
	other := msg(0, 2, 0, 0)
	other.Op.Epoch = 1
	for _, m := range []api.Msg{first, second, other, msg(0, 2, 0, 8)} {
		keep(t, "P8.2: one of its Site and Seq", s, m, api.ErrOld)
		has(t, "P8.2: the first one stays", s, first, second)
	}
	third := msg(0, 3, 0, 0)
	keep(t, "P8.2", s, third, api.OK)
	keep(t, "R2: old, and without room", s, first, api.ErrOld)
	keep(t, "R2: old, and without room", s, other, api.ErrOld)
	has(t, "R3", s, first, second, third)
	drop(t, "P8.2", s, vec.Vec{2, 0}, 1, api.OK)
	keep(t, "P8.2: what was dropped is kept anew", s, other, api.OK)
	has(t, "P8.2: what was dropped is kept anew", s, other, second, third)
}

func TestFull(t *testing.T) {
	for _, room := range []int{1, 2, 3, 99999, 100000} {
		s := mustNew(t, 1, room)
		for i := range room {
			if s.Len() != i {
				t.Fatalf("P8.1: %d are kept, not %d", s.Len(), i)
			}
			keep(t, "P8.2: there is room", s, msg(0, i+1, 0), api.OK)
		}
		for _, seq := range []int{room + 1, room + 2, most} {
			keep(t, "P8.2: no room", s, msg(0, seq, 0), api.ErrFull)
			hasNone(t, "R3: no room", s, Ask{0, seq})
		}
		if s.Len() != room {
			t.Errorf("P8.2: %d are kept, not %d", s.Len(), room)
		}
		drop(t, "P8.2", s, vec.Vec{1}, 1, api.OK)
		keep(t, "P8.2: room again", s, msg(0, room+1, 0), api.OK)
		keep(t, "P8.2: no room again", s, msg(0, room+2, 0), api.ErrFull)
		drop(t, "P8.2", s, vec.Vec{most}, room, api.OK)
		has(t, "P8.2: all dropped", s)
	}
}

func TestDrop(t *testing.T) {
	for a := range 6 {
		for b := range 6 {
			s := mustNew(t, 2, 100)
			var stays []api.Msg
			var goes []Ask
			for seq := 1; seq <= 4; seq++ {
				for site, n := range []int{a, b} {
					m := msg(site, seq, 7, 7)
					keep(t, "P8.2", s, m, api.OK)
					if seq <= n {
						goes = append(goes, Ask{site, seq})
					} else {
						stays = append(stays, m)
					}
				}
			}
			drop(t, "P8.2", s, vec.Vec{a, b}, len(goes), api.OK)
			has(t, "P8.2: what is not covered", s, stays...)
			hasNone(t, "P8.2: what is covered", s, goes...)
			drop(t, "P8.2: again", s, vec.Vec{a, b}, 0, api.OK)
			has(t, "P8.2: again", s, stays...)
		}
	}
	drop(t, "P8.2: none is kept", mustNew(t, 1, 1), vec.Vec{most}, 0, api.OK)
}

func TestDropWrong(t *testing.T) {
	s := mustNew(t, 3, 2)
	kept := []api.Msg{msg(0, 1, 0, 0, 0), msg(2, 1, 0, 0, 0)}
	for _, m := range kept {
		keep(t, "P8.2", s, m, api.OK)
	}
	for _, v := range []vec.Vec{nil, {}, {5}, {5, 5}, {5, 5, 5, 5}, slices.Repeat(vec.Vec{5}, 16), slices.Repeat(vec.Vec{5}, 17), {5, -1, 5}, {5, 5, most + 1}, {math.MinInt, 5, 5}, {5, math.MaxInt, 5}} {
		drop(t, "P8.2, R1", s, v, 0, api.ErrArg)
		has(t, "R3: nothing is dropped", s, kept...)
	}
	drop(t, "P8.2", s, vec.Vec{1, most, 0}, 1, api.OK)
	has(t, "P8.2", s, kept[1])
}

func TestAsksExample(t *testing.T) {
	if l, e := Asks(vec.Vec{0, 1}, vec.Vec{2, 1}, 5); !slices.Equal(l, []Ask{{0, 1}, {0, 2}}) || e != api.OK {
		t.Errorf("P8.3: the example: %v, %d", l, e)
	}
}

// plain has all that one covers and the other one does not, the sites from 0 on.
func plain(has, knows vec.Vec, to, most int) []Ask {
	var l []Ask
	for site := range has {
		for seq := range to + 1 {
			if knows.Covers(site, seq) && !has.Covers(site, seq) {
				l = append(l, Ask{site, seq})
			}
		}
	}
	return l[:min(most, len(l))]
}

func TestAsks(t *testing.T) {
	x := source(1)
	for range 3000 {
		sites := 1 + x.below(16)
		a, b := make(vec.Vec, sites), make(vec.Vec, sites)
		for i := range a {
			a[i], b[i] = x.below(6), x.below(6)
		}
		for _, n := range []int{0, 1, 2, 3, 5, 20, 999, 1000} {
			l, e := Asks(a, b, n)
			if want := plain(a, b, 5, n); e != api.OK || !slices.Equal(l, want) {
				t.Fatalf("P8.3: Asks(%v, %v, %d): %v, %d, not %v", a, b, n, l, e, want)
			}
		}
	}
}

// However much is known of, there are no more than asked for, and those from what is had on.
func TestAsksOfMuch(t *testing.T) {
	for _, n := range []int{0, 1, 2, 999, 1000} {
		for _, from := range []int{0, 1, 1 << 31, most - 1000} {
			l, e := Asks(vec.Vec{most, from, 0}, vec.Vec{most, most, most}, n)
			if e != api.OK || len(l) != n {
				t.Fatalf("P8.3: from %d, %d: %d, %d", from, n, len(l), e)
			}
			for i, a := range l {
				if a != (Ask{1, from + 1 + i}) {
					t.Fatalf("P8.3: from %d, %d: number %d is %v", from, n, i, a)
				}
			}
		}
	}
	if l, e := Asks(vec.Vec{most - 2, 3}, vec.Vec{most, 5}, 1000); e != api.OK || !slices.Equal(l, []Ask{{0, most - 1}, {0, most}, {1, 4}, {1, 5}}) {
		t.Errorf("P8.3: up to the last Seq: %v, %d", l, e)
	}
}

func TestAsksWrong(t *testing.T) {
	apart := func(a, b vec.Vec, n int) {
		t.Helper()
		if l, e := Asks(a, b, n); len(l) != 0 || e != api.ErrArg {
			t.Errorf("P8.3, R1, R3: Asks(%v, %v, %d): %v, %d", a, b, n, l, e)
		}
	}
	for _, n := range []int{math.MinInt, -1, 1001, 1002, 1 << 32, math.MaxInt} {
		apart(vec.Vec{0}, vec.Vec{5}, n)
		apart(vec.Vec{0}, vec.Vec{0}, n)
	}
	for _, n := range []int{0, 5, 1000} {
		for _, v := range []vec.Vec{nil, {}, {-1}, {most + 1}, {0, math.MinInt}, make(vec.Vec, 17), make(vec.Vec, 1000)} {
			apart(v, v, n)
			apart(v, make(vec.Vec, len(v)), n)
			apart(make(vec.Vec, len(v)), v, n)
		}
		for a := range 18 {
			for b := range 18 {
				if a != b {
					apart(make(vec.Vec, a), make(vec.Vec, b), n)
				}
			}
		}
	}
}

// model does by a list what the document's words say.
type model struct {
	sites int
	room  int
	kept  []api.Msg
}

func (o *model) find(a Ask) int {
	return slices.IndexFunc(o.kept, func(m api.Msg) bool { return m.Site == a.Site && m.Seq == a.Seq })
}

func (o *model) keep(m api.Msg) api.Errno {
	switch {
	case mesg.Check(m) != api.OK || len(m.Know) != o.sites:
		return api.ErrArg
	case o.find(Ask{m.Site, m.Seq}) >= 0:
		return api.ErrOld
	case len(o.kept) == o.room:
		return api.ErrFull
	}
	o.kept = append(o.kept, m)
	return api.OK
}

func (o *model) drop(v vec.Vec) int {
	before := len(o.kept)
	o.kept = slices.DeleteFunc(o.kept, func(m api.Msg) bool { return m.Seq <= v[m.Site] })
	return before - len(o.kept)
}

func TestByModel(t *testing.T) {
	x := source(2)
	for range 100 {
		sites, room := 1+x.below(16), 1+x.below(20)
		s, o := mustNew(t, sites, room), &model{sites: sites, room: room}
		v := make(vec.Vec, sites)
		for range 200 {
			m := msg(x.below(sites), 1+x.below(8), make([]int, sites)...)
			m.Op.Epoch = x.below(100)
			if x.below(20) == 0 {
				m.Op.Kind = 0
			}
			keep(t, "P8.2: by the model", s, m, o.keep(m))
			if x.below(8) == 0 {
				v[x.below(sites)] = x.below(9)
				drop(t, "P8.2: by the model", s, v, o.drop(v), api.OK)
			}
			has(t, "P8.2: by the model", s, o.kept...)
			a := Ask{x.below(sites), x.below(10)}
			if o.find(a) < 0 {
				hasNone(t, "P8.2: by the model", s, a)
			}
			if t.Failed() {
				t.FailNow()
			}
		}
	}
}

// history has messages as sites make them that hear of one another now and then.
func (x *source) history(sites, many int) []api.Msg {
	clocks := make([]vec.Vec, sites)
	for i := range clocks {
		clocks[i] = make(vec.Vec, sites)
	}
	var l []api.Msg
	for range many {
		site := x.below(sites)
		if x.below(2) == 0 {
			clocks[site], _ = clocks[site].Join(clocks[x.below(sites)])
		}
		l = append(l, msg(site, clocks[site][site]+1, clocks[site]...))
		clocks[site], _ = clocks[site].Tick(site)
	}
	return l
}

// A hold that some messages came to asks for the others, and tells all that it knew of.
func TestAnswersRaiseTheClock(t *testing.T) {
	x := source(3)
	for range 200 {
		sites := 1 + x.below(16)
		all := x.history(sites, 1+x.below(60))
		s := mustNew(t, sites, 100)
		h, _ := hold.New(sites, 1000)
		for _, m := range all {
			keep(t, "P8.2", s, m, api.OK)
			if x.below(5) == 0 {
				h.Put(m)
			}
		}
		knew := h.Known()
		asks, e := Asks(h.Clock(), knew, 1000)
		if e != api.OK {
			t.Fatalf("P8.3: %d", e)
		}
		for _, a := range asks {
			m, is := s.Get(a)
			if !is {
				t.Fatalf("P8.4: Get(%v) of one that is kept", a)
			}
			h.Put(m)
		}
		if !slices.Equal(h.Clock(), knew) || h.Waits() != 0 {
			t.Fatalf("P8.4: the clock is %v, not %v; %d wait", h.Clock(), knew, h.Waits())
		}
		if asks, _ := Asks(h.Clock(), h.Known(), 1000); len(asks) != 0 {
			t.Errorf("P8.4: %v is still asked for", asks)
		}
	}
}

func TestMemory(t *testing.T) {
	spoil := func(l []int) {
		l = l[:cap(l)]
		for i := range l {
			l[i] = 9
		}
	}
	s := mustNew(t, 2, 5)
	spare := []int{4, 2, 77, 78}
	m := api.Msg{Site: 1, Seq: 3, Know: spare[:2], Op: api.Op{Kind: api.Caret}}
	want := msg(1, 3, 4, 2)
	keep(t, "P8.2", s, m, api.OK)
	if !slices.Equal(spare, []int{4, 2, 77, 78}) {
		t.Errorf("R5: what was handed in is changed: %v", spare)
	}
	spoil(m.Know)
	has(t, "R5: what was handed in is kept", s, want)
	got, _ := s.Get(Ask{1, 3})
	again, _ := s.Get(Ask{1, 3})
	spoil(got.Know)
	if !reflect.DeepEqual(again, want) {
		t.Errorf("R5: two answers share memory: %v", again)
	}
	has(t, "R5, R6: what was answered is kept", s, want)

	a, b := vec.Vec{0, 1, 77}, vec.Vec{2, 1, 88}
	l, _ := Asks(a[:2], b[:2], 5)
	more, _ := Asks(a[:2], b[:2], 5)
	clear(l[:cap(l)])
	drop(t, "P8.2", s, a[:2], 0, api.OK)
	drop(t, "P8.2", s, b[:2], 0, api.OK)
	if !slices.Equal(a, vec.Vec{0, 1, 77}) || !slices.Equal(b, vec.Vec{2, 1, 88}) || !slices.Equal(more, []Ask{{0, 1}, {0, 2}}) {
		t.Errorf("R5: what was handed in is changed, or shared: %v, %v, %v", a, b, more)
	}
}

func TestApart(t *testing.T) {
	a, b := mustNew(t, 2, 5), mustNew(t, 2, 5)
	keep(t, "P8.2", a, msg(0, 1, 0, 0), api.OK)
	has(t, "R6: another store", b)
	hasNone(t, "R6: another store", b, Ask{0, 1})
}
