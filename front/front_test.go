package front

import (
	"math"
	"slices"
	"testing"

	"duet/api"
	"duet/vec"
)

const most = 1<<32 - 1

// source makes numbers that are the same in each run.
type source uint64

func (x *source) below(n int) int {
	*x = *x*6364136223846793005 + 1442695040888963407
	return int(*x>>33) % n
}

func mustNew(t *testing.T, sites int) *Front {
	t.Helper()
	f, e := New(sites)
	if f == nil || e != api.OK {
		t.Fatalf("P9.1: New(%d): %d", sites, e)
	}
	return f
}

func hear(t *testing.T, what string, f *Front, site int, v vec.Vec, want api.Errno) {
	t.Helper()
	if e := f.Hear(site, v); e != want {
		t.Errorf("%s: Hear(%d, %v): %d, not %d", what, site, v, e, want)
	}
}

// has holds that a front has just these rows, and what follows of them.
func has(t *testing.T, what string, f *Front, rows ...vec.Vec) {
	t.Helper()
	least, greatest := slices.Clone(rows[0]), slices.Clone(rows[0])
	for _, row := range rows {
		for i, n := range row {
			least[i] = min(least[i], n)
			greatest[i] = max(greatest[i], n)
		}
	}
	var late []int
	for site, row := range rows {
		if !slices.Equal(f.Row(site), row) {
			t.Errorf("%s: row %d: %v, not %v", what, site, f.Row(site), row)
		}
		if !slices.Equal(row, greatest) {
			late = append(late, site)
		}
	}
	if !slices.Equal(f.Stable(), least) {
		t.Errorf("%s: Stable: %v, not %v", what, f.Stable(), least)
	}
	if !slices.Equal(f.Most(), greatest) {
		t.Errorf("%s: Most: %v, not %v", what, f.Most(), greatest)
	}
	if !slices.Equal(f.Late(), late) {
		t.Errorf("%s: Late: %v, not %v", what, f.Late(), late)
	}
}

func hasNoRow(t *testing.T, what string, f *Front, sites ...int) {
	t.Helper()
	for _, site := range sites {
		if row := f.Row(site); len(row) != 0 {
			t.Errorf("%s: Row(%d): %v", what, site, row)
		}
	}
}

func TestNew(t *testing.T) {
	for _, sites := range []int{math.MinInt, -1, 0, 17, 18, 1000, 1 << 32, 1<<32 + 1, math.MaxInt} {
		if f, e := New(sites); f != nil || e != api.ErrArg {
			t.Errorf("P9.1, R3: New(%d): %v, %d", sites, f, e)
		}
	}
	for sites := 1; sites <= 16; sites++ {
		rows := make([]vec.Vec, sites)
		for site := range rows {
			rows[site] = make(vec.Vec, sites)
		}
		f := mustNew(t, sites)
		has(t, "P9.1: new", f, rows...)
		hasNoRow(t, "P9.1", f, math.MinInt, -1, sites, sites+1, 1<<32, math.MaxInt)
	}
}

func TestNil(t *testing.T) {
	var none *Front
	for _, f := range []*Front{none, {}} {
		for _, site := range []int{math.MinInt, -1, 0, 1, 15, 16, math.MaxInt} {
			hasNoRow(t, "P9.1, R1: nil", f, site)
			for _, v := range []vec.Vec{nil, {}, {0}, {1}, {1, 1}, {-1}, make(vec.Vec, 17)} {
				hear(t, "P9.1, R1: nil", f, site, v, api.ErrArg)
			}
		}
		if len(f.Stable()) != 0 || len(f.Most()) != 0 || len(f.Late()) != 0 {
			t.Errorf("P9.1, R1: nil: %v, %v, %v", f.Stable(), f.Most(), f.Late())
		}
	}
}

func TestExample(t *testing.T) {
	f := mustNew(t, 2)
	hear(t, "P9.2", f, 0, vec.Vec{2, 1}, api.OK)
	hear(t, "P9.2", f, 1, vec.Vec{1, 3}, api.OK)
	has(t, "P9.3: the example", f, vec.Vec{2, 1}, vec.Vec{1, 3})
	if !slices.Equal(f.Stable(), vec.Vec{1, 1}) || !slices.Equal(f.Most(), vec.Vec{2, 3}) || !slices.Equal(f.Late(), []int{0, 1}) {
		t.Errorf("P9.3: the example: %v, %v, %v", f.Stable(), f.Most(), f.Late())
	}
}

func TestJoined(t *testing.T) {
	f := mustNew(t, 3)
	hear(t, "P9.2", f, 1, vec.Vec{0, 4, 2}, api.OK)
	has(t, "P9.2", f, vec.Vec{0, 0, 0}, vec.Vec{0, 4, 2}, vec.Vec{0, 0, 0})
	hear(t, "P9.2: more and less", f, 1, vec.Vec{3, 1, 2}, api.OK)
	has(t, "P9.2: more and less", f, vec.Vec{0, 0, 0}, vec.Vec{3, 4, 2}, vec.Vec{0, 0, 0})
	hear(t, "P9.2: less", f, 1, vec.Vec{0, 0, 0}, api.OK)
	has(t, "P9.2: less", f, vec.Vec{0, 0, 0}, vec.Vec{3, 4, 2}, vec.Vec{0, 0, 0})
	hear(t, "P9.2: of itself a site may tell what it likes", f, 1, vec.Vec{0, most, 0}, api.OK)
	has(t, "P9.2: the greatest", f, vec.Vec{0, 0, 0}, vec.Vec{3, most, 2}, vec.Vec{0, 0, 0})
}

func TestAlone(t *testing.T) {
	f := mustNew(t, 1)
	hear(t, "P9.2", f, 0, vec.Vec{7}, api.OK)
	hear(t, "P9.2", f, 0, vec.Vec{5}, api.OK)
	has(t, "P9.3", f, vec.Vec{7})
	hear(t, "P9.2", f, 0, vec.Vec{9}, api.OK)
	has(t, "P9.3", f, vec.Vec{9})
}

func TestHearWrong(t *testing.T) {
	f := mustNew(t, 3)
	rows := []vec.Vec{{2, 1, 0}, {1, 3, 0}, {0, 0, 0}}
	hear(t, "P9.2", f, 0, rows[0], api.OK)
	hear(t, "P9.2", f, 1, rows[1], api.OK)
	for _, site := range []int{math.MinInt, -1, 3, 4, 16, 1 << 32, math.MaxInt} {
		// [0 9 0] and [9 0 0] would be denied, were there such a site.
		for _, v := range []vec.Vec{nil, {0, 0, 0}, {2, 1, 0}, {9, 0, 0}, {0, 9, 0}, {0, 0}, {-1, 0, 0}} {
			hear(t, "P9.2: no such site", f, site, v, api.ErrArg)
		}
	}
	wrong := []vec.Vec{nil, {}, {0}, {9}, {0, 0}, {0, 9}, {9, 9}, {0, 0, 0, 0}, {9, 9, 0, 0}, make(vec.Vec, 16), make(vec.Vec, 17), make(vec.Vec, 1000)}
	for _, n := range []int{math.MinInt, -1, most + 1, most + 2, math.MaxInt} {
		// With a 9 beside it, it would be denied as well: ErrArg is named first.
		wrong = append(wrong, vec.Vec{n, 0, 0}, vec.Vec{0, n, 0}, vec.Vec{0, 0, n}, vec.Vec{9, 9, n}, vec.Vec{9, n, 0}, vec.Vec{n, 9, 0})
	}
	for site := range 3 {
		for _, v := range wrong {
			hear(t, "P9.2, R2: one that may not be, or of another number", f, site, v, api.ErrArg)
		}
	}
	has(t, "R3: nothing changes", f, rows...)
}

func TestDeny(t *testing.T) {
	for i, c := range []struct {
		rows []vec.Vec // told ahead of it
		site int
		v    vec.Vec
		want api.Errno
	}{
		{[]vec.Vec{{2, 0}, {0, 0}}, 1, vec.Vec{3, 0}, api.ErrDeny},
		{[]vec.Vec{{2, 0}, {0, 0}}, 1, vec.Vec{2, 0}, api.OK},
		{[]vec.Vec{{2, 0}, {0, 0}}, 1, vec.Vec{most, 0}, api.ErrDeny},
		{[]vec.Vec{{0, 0}, {0, 2}}, 0, vec.Vec{0, 3}, api.ErrDeny},
		{[]vec.Vec{{0, 0}, {0, 2}}, 0, vec.Vec{5, 2}, api.OK},
		{[]vec.Vec{{0, 0}, {0, 2}}, 0, vec.Vec{5, 3}, api.ErrDeny},
		// A site that told nothing yet denies nothing.
		{[]vec.Vec{{0, 0}, {0, 0}}, 1, vec.Vec{3, 0}, api.OK},
		{[]vec.Vec{{0, 0}, {0, 4}}, 1, vec.Vec{3, 0}, api.OK},
		// One that told of others alone has made none: its own row is not all zeros.
		{[]vec.Vec{{0, 1, 0}, {0, 0, 0}, {0, 0, 0}}, 2, vec.Vec{1, 0, 0}, api.ErrDeny},
		{[]vec.Vec{{0, 0, 1}, {0, 0, 0}, {0, 0, 0}}, 1, vec.Vec{1, 0, 0}, api.ErrDeny},
		{[]vec.Vec{{0, 0, 1}, {0, 0, 0}, {0, 0, 0}}, 1, vec.Vec{0, 9, 9}, api.OK},
		// Each of the others is looked at.
		{[]vec.Vec{{1, 0, 0}, {0, 1, 0}, {0, 0, 1}}, 0, vec.Vec{1, 1, 2}, api.ErrDeny},
		{[]vec.Vec{{1, 0, 0}, {0, 1, 0}, {0, 0, 1}}, 1, vec.Vec{1, 1, 2}, api.ErrDeny},
		{[]vec.Vec{{1, 0, 0}, {0, 1, 0}, {0, 0, 1}}, 1, vec.Vec{2, 1, 1}, api.ErrDeny},
		{[]vec.Vec{{1, 0, 0}, {0, 1, 0}, {0, 0, 1}}, 2, vec.Vec{1, 2, 1}, api.ErrDeny},
		{[]vec.Vec{{1, 0, 0}, {0, 1, 0}, {0, 0, 1}}, 2, vec.Vec{1, 1, 9}, api.OK},
	} {
		f := mustNew(t, len(c.v))
		rows := slices.Clone(c.rows)
		for site, row := range rows {
			hear(t, "P9.2", f, site, row, api.OK)
		}
		hear(t, "P9.2", f, c.site, c.v, c.want)
		if c.want == api.OK {
			rows[c.site], _ = rows[c.site].Join(c.v)
		}
		has(t, "P9.2, R3", f, rows...)
		if t.Failed() {
			t.Fatalf("P9.2: case %d", i)
		}
	}
}

// What a site told ahead of the one it told of may be told again, though that one told less since.
func TestDenyOldNews(t *testing.T) {
	f := mustNew(t, 2)
	hear(t, "P9.2", f, 1, vec.Vec{5, 1}, api.OK)
	hear(t, "P9.2", f, 0, vec.Vec{2, 0}, api.OK)
	hear(t, "P9.2: the same again", f, 1, vec.Vec{5, 2}, api.OK)
	hear(t, "P9.2: less than that", f, 1, vec.Vec{4, 2}, api.OK)
	hear(t, "P9.2: more than that", f, 1, vec.Vec{6, 3}, api.ErrDeny)
	has(t, "P9.2, R3", f, vec.Vec{2, 0}, vec.Vec{5, 2})
	hear(t, "P9.2: it made more", f, 0, vec.Vec{6, 2}, api.OK)
	hear(t, "P9.2: no more than that", f, 1, vec.Vec{6, 3}, api.OK)
	has(t, "P9.2", f, vec.Vec{6, 2}, vec.Vec{6, 3})
}

func TestLate(t *testing.T) {
	f := mustNew(t, 4)
	all := vec.Vec{3, 1, 4, 1}
	for i, site := range []int{2, 0, 3, 1} {
		own := make(vec.Vec, 4)
		own[site] = all[site]
		hear(t, "P9.3", f, site, own, api.OK)
		if i == 3 && !slices.Equal(f.Late(), []int{0, 1, 2, 3}) {
			t.Errorf("P9.3: all are late: %v", f.Late())
		}
	}
	for i, site := range []int{2, 0, 3, 1} {
		hear(t, "P9.3", f, site, all, api.OK)
		if late := [][]int{{0, 1, 3}, {1, 3}, {1}, nil}[i]; !slices.Equal(f.Late(), late) {
			t.Errorf("P9.3: Late: %v, not %v", f.Late(), late)
		}
	}
	has(t, "P9.4: none is late", f, all, all, all, all)
}

// deny is P9.2's word, in other words than the program's.
func deny(rows []vec.Vec, site int, v vec.Vec) bool {
	for of, own := range rows {
		zeros := !slices.ContainsFunc(own, func(n int) bool { return n != 0 })
		if of == site || zeros {
			continue
		}
		if max(own[of], rows[site][of]) < v[of] {
			return true
		}
	}
	return false
}

// follows holds P9.4 of what a front had and has.
func follows(t *testing.T, f *Front, sites int, stable vec.Vec) vec.Vec {
	t.Helper()
	now := f.Stable()
	if order, e := stable.Compare(now); e != api.OK || order != vec.Same && order != vec.Before {
		t.Fatalf("P9.4: stable went from %v to %v", stable, now)
	}
	for site := range sites {
		if order, e := now.Compare(f.Row(site)); e != api.OK || order != vec.Same && order != vec.Before {
			t.Fatalf("P9.4: %v is stable, row %d is %v", now, site, f.Row(site))
		}
	}
	if len(f.Late()) == 0 && !slices.Equal(now, f.Most()) {
		t.Fatalf("P9.4: none is late: %v, %v", now, f.Most())
	}
	return now
}

func TestByChance(t *testing.T) {
	from := source(1)
	denied, heard, even := 0, 0, 0
	for range 300 {
		sites := 1 + from.below(5)
		if from.below(10) == 0 {
			sites = 16
		}
		f := mustNew(t, sites)
		rows := make([]vec.Vec, sites)
		for site := range rows {
			rows[site] = make(vec.Vec, sites)
		}
		stable := f.Stable()
		for range 60 {
			site := from.below(sites)
			v := slices.Clone(rows[from.below(sites)])
			for range from.below(3) {
				v[from.below(sites)] = from.below(6)
			}
			want := api.OK
			if deny(rows, site, v) {
				want = api.ErrDeny
				denied++
			} else {
				for i := range v {
					rows[site][i] = max(rows[site][i], v[i])
				}
				heard++
			}
			hear(t, "P9.2", f, site, v, want)
			has(t, "P9.2, P9.3", f, rows...)
			stable = follows(t, f, sites, stable)
			if len(f.Late()) == 0 {
				even++
			}
			if t.Failed() {
				t.FailNow()
			}
		}
	}
	if denied < 1000 || heard < 1000 || even < 100 {
		t.Errorf("the runs tell little: %d, %d, %d", denied, heard, even)
	}
}

func TestMemory(t *testing.T) {
	f := mustNew(t, 2)
	v := make(vec.Vec, 2, 8)
	copy(v, vec.Vec{2, 1})
	hear(t, "R5", f, 0, v, api.OK)
	if room := v[:8]; !slices.Equal(room, vec.Vec{2, 1, 0, 0, 0, 0, 0, 0}) {
		t.Errorf("R5: Hear changed what it was given: %v", room)
	}
	spoil := func(l []int) {
		for i := range l[:cap(l)] {
			l[:cap(l)][i] = 99
		}
	}
	spoil(v)
	has(t, "R5: what is handed in is not kept", f, vec.Vec{2, 1}, vec.Vec{0, 0})
	hear(t, "R5", f, 1, vec.Vec{1, 3}, api.OK)
	for range 2 {
		spoil(f.Row(0))
		spoil(f.Row(1))
		spoil(f.Stable())
		spoil(f.Most())
		spoil(f.Late())
		has(t, "R5: what is answered is new", f, vec.Vec{2, 1}, vec.Vec{1, 3})
	}
	// Of one site the row is all there is of Stable and Most.
	one := mustNew(t, 1)
	hear(t, "R5", one, 0, vec.Vec{4}, api.OK)
	spoil(one.Stable())
	spoil(one.Most())
	spoil(one.Row(0))
	has(t, "R5: of one site", one, vec.Vec{4})
}

func TestSameAgain(t *testing.T) {
	run := func(f *Front) [][]int {
		from := source(2)
		var l [][]int
		for range 200 {
			e := f.Hear(from.below(4), vec.Vec{from.below(9), from.below(9), from.below(9)})
			l = append(l, []int{int(e)}, f.Stable(), f.Most(), f.Late())
		}
		return l
	}
	first := run(mustNew(t, 3))
	if !slices.EqualFunc(first, run(mustNew(t, 3)), slices.Equal) {
		t.Errorf("R6: the same again is another one")
	}
}
