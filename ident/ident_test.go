package ident

import (
	"math"
	"slices"
	"testing"

	"duet/api"
)

const most = 1<<32 - 1

// source makes numbers that are the same in each run.
type source uint64

func (x *source) below(n int) int {
	*x = *x*6364136223846793005 + 1442695040888963407
	return int(*x>>33) % n
}

func id(time, site int) api.Id { return api.Id{Time: time, Site: site} }

// ids are some of the Ids that may be and some that may not, the edges among them.
func ids() []api.Id {
	var l []api.Id
	for _, time := range []int{math.MinInt, -1, 0, 1, 2, 1 << 31, 1<<31 + 1, most - 1, most, most + 1, most + 2, math.MaxInt} {
		for _, site := range []int{math.MinInt, -1, 0, 1, 2, 14, 15, 16, 17, 1 << 32, math.MaxInt} {
			l = append(l, id(time, site))
		}
	}
	return l
}

// before is the document's word of two Ids, in other words than the program's.
func before(a, b api.Id) bool {
	if a.Time == b.Time {
		return a.Site < b.Site
	}
	return a.Time < b.Time
}

func mayBe(x api.Id) bool {
	return x.Time >= 1 && x.Time <= most && x.Site >= 0 && x.Site <= 15
}

func mustNew(t *testing.T, site int) *Maker {
	t.Helper()
	m, e := New(site)
	if m == nil || e != api.OK {
		t.Fatalf("P10.2: New(%d): %d", site, e)
	}
	return m
}

func see(t *testing.T, what string, m *Maker, x api.Id, want api.Errno, time int) {
	t.Helper()
	if e := m.See(x); e != want || m.Time() != time {
		t.Errorf("%s: See(%v): %d, time %d, not %d, %d", what, x, e, m.Time(), want, time)
	}
}

func makes(t *testing.T, what string, m *Maker, x api.Id, want api.Errno, time int) {
	t.Helper()
	if got, e := m.Make(); got != x || e != want || m.Time() != time {
		t.Errorf("%s: Make: %v, %d, time %d, not %v, %d, %d", what, got, e, m.Time(), x, want, time)
	}
}

func TestLess(t *testing.T) {
	for i, c := range []struct {
		a, b api.Id
		want bool
	}{
		{id(1, 5), id(2, 0), true},
		{id(2, 0), id(1, 5), false},
		{id(2, 0), id(2, 1), true},
		{id(2, 1), id(2, 0), false},
		{id(2, 1), id(2, 1), false},
		{id(0, 0), id(0, 0), false},
		{id(0, 0), id(1, 0), true},
		{id(most-1, 15), id(most, 0), true},
		{id(most, 14), id(most, 15), true},
		{id(math.MinInt, 0), id(math.MaxInt, 0), true},
		{id(math.MaxInt, 0), id(math.MinInt, 0), false},
		{id(1, math.MinInt), id(1, math.MaxInt), true},
		{id(1, math.MaxInt), id(1, math.MinInt), false},
	} {
		if Less(c.a, c.b) != c.want {
			t.Errorf("P10.1: case %d: Less(%v, %v) is not %v", i, c.a, c.b, c.want)
		}
	}
	for _, a := range ids() {
		for _, b := range ids() {
			if Less(a, b) != before(a, b) {
				t.Errorf("P10.1: Less(%v, %v): %v", a, b, Less(a, b))
			}
		}
	}
}

func TestCheck(t *testing.T) {
	for _, x := range ids() {
		want := api.ErrArg
		if mayBe(x) {
			want = api.OK
		}
		if e := Check(x); e != want {
			t.Errorf("P10.1: Check(%v): %d, not %d", x, e, want)
		}
	}
	for site := range 16 {
		if Check(id(1, site)) != api.OK || Check(id(most, site)) != api.OK {
			t.Errorf("P10.1: site %d", site)
		}
	}
}

func TestNew(t *testing.T) {
	for _, site := range []int{math.MinInt, -2, -1, 16, 17, 1000, 1 << 32, 1<<32 + 1, math.MaxInt} {
		if m, e := New(site); m != nil || e != api.ErrArg {
			t.Errorf("P10.2, R3: New(%d): %v, %d", site, m, e)
		}
	}
	for site := range 16 {
		m := mustNew(t, site)
		if m.Time() != 0 {
			t.Errorf("P10.2: New(%d): time %d", site, m.Time())
		}
		makes(t, "P10.2", m, id(1, site), api.OK, 1)
		makes(t, "P10.2", m, id(2, site), api.OK, 2)
	}
}

func TestNil(t *testing.T) {
	var m *Maker
	for _, x := range ids() {
		see(t, "P10.2, R1: nil", m, x, api.ErrArg, 0)
	}
	makes(t, "P10.2, R1, R3: nil", m, api.Id{}, api.ErrArg, 0)
}

// A maker that New did not make is one of site 0.
func TestZero(t *testing.T) {
	m := &Maker{}
	see(t, "R1", m, id(0, 0), api.ErrArg, 0)
	makes(t, "R1", m, id(1, 0), api.OK, 1)
}

func TestSee(t *testing.T) {
	m := mustNew(t, 0)
	see(t, "P10.2: the example", m, id(5, 1), api.OK, 5)
	makes(t, "P10.2: the example", m, id(6, 0), api.OK, 6)
	see(t, "P10.2: a lesser one", m, id(5, 15), api.OK, 6)
	see(t, "P10.2: the same time", m, id(6, 15), api.OK, 6)
	see(t, "P10.2: its own site's", m, id(9, 0), api.OK, 9)
	see(t, "P10.2: one more", m, id(10, 3), api.OK, 10)
	makes(t, "P10.2", m, id(11, 0), api.OK, 11)
}

func TestSeeWrong(t *testing.T) {
	m := mustNew(t, 7)
	see(t, "P10.2", m, id(40, 1), api.OK, 40)
	for _, x := range ids() {
		if !mayBe(x) {
			see(t, "P10.2, R3: one that may not be", m, x, api.ErrArg, 40)
		}
	}
	makes(t, "R3", m, id(41, 7), api.OK, 41)
}

func TestFull(t *testing.T) {
	m := mustNew(t, 15)
	see(t, "P10.2", m, id(most-2, 0), api.OK, most-2)
	makes(t, "P10.2", m, id(most-1, 15), api.OK, most-1)
	makes(t, "P10.2: the last", m, id(most, 15), api.OK, most)
	for range 3 {
		makes(t, "P10.2, R3: none is left", m, api.Id{}, api.ErrFull, most)
	}
	see(t, "P10.2", m, id(1, 0), api.OK, most)
	see(t, "P10.2", m, id(most, 0), api.OK, most)
	makes(t, "P10.2, R3: none is left", m, api.Id{}, api.ErrFull, most)

	seen := mustNew(t, 0)
	see(t, "P10.2: the last was seen", seen, id(most, 3), api.OK, most)
	makes(t, "P10.2, R3", seen, api.Id{}, api.ErrFull, most)
}

// ordered is Order by words of its own: each one is put where it belongs, unless it is there.
func ordered(l []api.Id) []api.Id {
	var out []api.Id
	for _, x := range l {
		at := 0
		for at < len(out) && before(out[at], x) {
			at++
		}
		if at == len(out) || out[at] != x {
			out = slices.Insert(out, at, x)
		}
	}
	return out
}

func TestOrder(t *testing.T) {
	for i, c := range []struct{ l, want []api.Id }{
		{nil, nil},
		{[]api.Id{}, nil},
		{[]api.Id{id(1, 0)}, []api.Id{id(1, 0)}},
		{[]api.Id{{}}, []api.Id{{}}},
		{[]api.Id{id(3, 0), id(1, 2), id(3, 0), id(1, 1)}, []api.Id{id(1, 1), id(1, 2), id(3, 0)}},
		{[]api.Id{id(2, 1), id(2, 1), id(2, 1)}, []api.Id{id(2, 1)}},
		{[]api.Id{id(2, 1), id(1, 2), id(2, 1), id(1, 2)}, []api.Id{id(1, 2), id(2, 1)}},
		{[]api.Id{id(math.MaxInt, 0), id(math.MinInt, 0), id(0, math.MaxInt), id(0, math.MinInt)}, []api.Id{id(math.MinInt, 0), id(0, math.MinInt), id(0, math.MaxInt), id(math.MaxInt, 0)}},
	} {
		if got := Order(c.l); !slices.Equal(got, c.want) {
			t.Errorf("P10.3: case %d: Order(%v): %v, not %v", i, c.l, got, c.want)
		}
	}
	if got := Order(slices.Concat(ids(), ids())); !slices.Equal(got, ordered(ids())) {
		t.Errorf("P10.3: the edges: %v", got)
	}
}

func TestRank(t *testing.T) {
	l := []api.Id{id(1, 1), id(1, 2), id(3, 0)}
	for i, c := range []struct {
		l    []api.Id
		x    api.Id
		want int
		is   bool
	}{
		{l, id(1, 1), 0, true},
		{l, id(1, 2), 1, true},
		{l, id(3, 0), 2, true},
		{l, id(0, 0), 0, false},
		{l, id(1, 0), 0, false},
		{l, id(1, 3), 2, false},
		{l, id(2, 0), 2, false},
		{l, id(3, 1), 3, false},
		{l, id(9, 9), 3, false},
		{l, id(math.MinInt, math.MinInt), 0, false},
		{l, id(math.MaxInt, math.MaxInt), 3, false},
		{nil, id(1, 1), 0, false},
		{nil, api.Id{}, 0, false},
		{[]api.Id{}, id(1, 1), 0, false},
		{[]api.Id{{}}, api.Id{}, 0, true},
	} {
		if n, is := Rank(c.l, c.x); n != c.want || is != c.is {
			t.Errorf("P10.3: case %d: Rank(%v, %v): %d, %v, not %d, %v", i, c.l, c.x, n, is, c.want, c.is)
		}
	}
}

// rankIs holds Rank of a list that rises against one look at each of it.
func rankIs(t *testing.T, l []api.Id, x api.Id) {
	t.Helper()
	less := 0
	for _, y := range l {
		if before(y, x) {
			less++
		}
	}
	if n, is := Rank(l, x); n != less || is != slices.Contains(l, x) {
		t.Errorf("P10.3: Rank(%v, %v): %d, %v", l, x, n, is)
	}
}

func TestOrderAndRankByChance(t *testing.T) {
	from := source(1)
	for range 2000 {
		l := make([]api.Id, from.below(20))
		for i := range l {
			l[i] = id(from.below(6), from.below(4))
		}
		rising := Order(l)
		if !slices.Equal(rising, ordered(l)) {
			t.Fatalf("P10.3: Order(%v): %v", l, rising)
		}
		for time := range 7 {
			rankIs(t, rising, id(time, from.below(5)))
		}
	}
	rising := Order(ids())
	for _, x := range append(ids(), id(3, 3), id(most, 3), id(-5, -5)) {
		rankIs(t, rising, x)
	}
}

func TestRankOfAnyList(t *testing.T) {
	from := source(2)
	for range 5000 {
		l := make([]api.Id, from.below(12))
		for i := range l {
			l[i] = id(from.below(5), from.below(3))
		}
		if n, _ := Rank(l, id(from.below(6), from.below(4))); n < 0 || n > len(l) {
			t.Fatalf("P10.3: Rank in %v: %d", l, n)
		}
	}
}

// What several makers make, while they see of one another what chance has them see.
func TestMadeIsGreater(t *testing.T) {
	from := source(3)
	for range 200 {
		makers := make([]*Maker, 1+from.below(16))
		greatest := make([]api.Id, len(makers))
		for site := range makers {
			makers[site] = mustNew(t, site)
		}
		made := map[api.Id]bool{}
		var all []api.Id
		for range 100 {
			site := from.below(len(makers))
			m := makers[site]
			if from.below(2) == 0 && len(all) > 0 {
				x := all[from.below(len(all))]
				see(t, "P10.4", m, x, api.OK, max(m.Time(), x.Time))
				if before(greatest[site], x) {
					greatest[site] = x
				}
				continue
			}
			x, e := m.Make()
			if e != api.OK || Check(x) != api.OK || made[x] || !before(greatest[site], x) {
				t.Fatalf("P10.4: site %d made %v, %d, behind %v", site, x, e, greatest[site])
			}
			made[x] = true
			all = append(all, x)
			greatest[site] = x
		}
	}
}

func TestMemory(t *testing.T) {
	given := make([]api.Id, 4, 9)
	copy(given, []api.Id{id(3, 0), id(1, 2), id(3, 0), id(1, 1)})
	room := given[:cap(given)]
	for i := 4; i < len(room); i++ {
		room[i] = id(100+i, 1)
	}
	kept := slices.Clone(room)
	first := Order(given)
	second := Order(given)
	if !slices.Equal(room, kept) {
		t.Errorf("R5: Order changed what it was given: %v", room)
	}
	spoil := first[:cap(first)]
	for i := range spoil {
		spoil[i] = id(-1, -1)
	}
	if !slices.Equal(room, kept) || !slices.Equal(second, []api.Id{id(1, 1), id(1, 2), id(3, 0)}) {
		t.Errorf("R5: Order's answer shares memory: %v, %v", room, second)
	}
	rising := slices.Clone(second)
	Rank(second, id(1, 2))
	if !slices.Equal(second, rising) {
		t.Errorf("R5: Rank changed what it was given: %v", second)
	}
	// A list that rises already is new memory too.
	again := Order(rising)
	again[0] = id(7, 7)
	if rising[0] != id(1, 1) {
		t.Errorf("R5: Order hands out what it was given")
	}
}

func TestSameAgain(t *testing.T) {
	run := func() []api.Id {
		from := source(4)
		a, b := mustNew(t, 2), mustNew(t, 2)
		var l []api.Id
		for range 50 {
			a.See(id(from.below(100), from.below(20)))
			x, _ := a.Make()
			y, _ := b.Make()
			l = append(l, x, y)
		}
		return l
	}
	l := run()
	if !slices.Equal(l, run()) {
		t.Errorf("R6: the same again is another one")
	}
	// Two makers, also of one site, have nothing to do with one another.
	if l[len(l)-1] != id(50, 2) {
		t.Errorf("R6: what one has seen another one has: %v", l[len(l)-1])
	}
}
