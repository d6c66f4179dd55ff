package vec

import (
	"math"
	"slices"
	"testing"

	"duet/api"
)

const most = 1<<32 - 1

// source makes numbers that are the same in each run.
type source uint64

func (x *source) below(n int) int {
	*x = *x*6364136223846793005 + 1442695040888963407
	return int(*x>>33) % n
}

// vec has numbers that often are the same as another one's.
func (x *source) vec(sites int) Vec {
	v := make(Vec, sites)
	for i := range v {
		v[i] = []int{0, 1, 2, 1 << 31, most - 1, most}[x.below(6)]
	}
	return v
}

// small calls f with each Vec of so many numbers, each of them below to.
func small(sites, to int, f func(Vec)) {
	v := make(Vec, sites)
	var fill func(int)
	fill = func(i int) {
		if i == sites {
			f(slices.Clone(v))
			return
		}
		for n := range to {
			v[i] = n
			fill(i + 1)
		}
	}
	fill(0)
}

func vecs(sites, to int) []Vec {
	var l []Vec
	small(sites, to, func(v Vec) { l = append(l, v) })
	return l
}

// within tells whether none of v's numbers is greater than w's.
func within(v, w Vec) bool {
	for i := range v {
		if v[i] > w[i] {
			return false
		}
	}
	return true
}

func join(t *testing.T, v, w Vec) Vec {
	t.Helper()
	j, e := v.Join(w)
	if e != api.OK || len(j) != len(v) {
		t.Fatalf("P6.2: %v.Join(%v): %v, %d", v, w, j, e)
	}
	return j
}

func meet(t *testing.T, v, w Vec) Vec {
	t.Helper()
	m, e := v.Meet(w)
	if e != api.OK || len(m) != len(v) {
		t.Fatalf("P6.2: %v.Meet(%v): %v, %d", v, w, m, e)
	}
	return m
}

func compare(t *testing.T, v, w Vec) int {
	t.Helper()
	k, e := v.Compare(w)
	if e != api.OK {
		t.Fatalf("P6.3: %v.Compare(%v): %d", v, w, e)
	}
	return k
}

// wrong are Vecs that may not be.
func wrong() []Vec {
	l := []Vec{nil, {}, make(Vec, 17), make(Vec, 18), make(Vec, 1000)}
	for _, n := range []int{math.MinInt, -1 << 32, -1, most + 1, most + 2, math.MaxInt} {
		for _, sites := range []int{1, 2, 3, 16} {
			for i := range sites {
				v := make(Vec, sites)
				v[i] = n
				l = append(l, v)
			}
		}
	}
	return l
}

func TestKinds(t *testing.T) {
	if Same != 0 || Before != 1 || After != 2 || Beside != 3 {
		t.Errorf("P6.3: %d, %d, %d, %d", Same, Before, After, Beside)
	}
}

func TestNew(t *testing.T) {
	for n := -20; n < 40; n++ {
		v, e := New(n)
		if n >= 1 && n <= 16 {
			if e != api.OK || !slices.Equal(v, make(Vec, n)) || v.Check() != api.OK {
				t.Errorf("P6.1: New(%d): %v, %d", n, v, e)
			}
		} else if len(v) != 0 || e != api.ErrArg {
			t.Errorf("P6.1, R3: New(%d): %v, %d", n, v, e)
		}
	}
	for _, n := range []int{math.MinInt, 1 << 32, 1<<32 + 1, math.MaxInt} {
		if v, e := New(n); len(v) != 0 || e != api.ErrArg {
			t.Errorf("P6.1: New(%d): %v, %d", n, v, e)
		}
	}
}

func TestCheck(t *testing.T) {
	for _, v := range wrong() {
		if e := v.Check(); e != api.ErrArg {
			t.Errorf("P6.1: %v: %d", v, e)
		}
	}
	for sites := 1; sites <= 16; sites++ {
		for _, n := range []int{0, 1, most - 1, most} {
			for i := range sites {
				v := make(Vec, sites)
				v[i] = n
				if e := v.Check(); e != api.OK {
					t.Errorf("P6.1: %v: %d", v, e)
				}
			}
		}
	}
}

func TestTick(t *testing.T) {
	for sites := 1; sites <= 16; sites++ {
		for _, site := range []int{math.MinInt, -1, 0, 1, 2, 7, 14, 15, 16, 17, math.MaxInt} {
			for _, n := range []int{0, 1, 1 << 31, most - 1, most} {
				v := Vec(slices.Repeat([]int{n}, sites))
				got, e := v.Tick(site)
				switch {
				case site < 0 || site >= sites:
					if len(got) != 0 || e != api.ErrArg {
						t.Errorf("P6.2, R2, R3: %v.Tick(%d): %v, %d", v, site, got, e)
					}
				case n == most:
					if len(got) != 0 || e != api.ErrFull {
						t.Errorf("P6.2, R3: %v.Tick(%d): %v, %d", v, site, got, e)
					}
				default:
					want := slices.Clone(v)
					want[site] = n + 1
					if !slices.Equal(got, want) || e != api.OK {
						t.Errorf("P6.2: %v.Tick(%d): %v, %d", v, site, got, e)
					}
				}
			}
		}
	}
	for _, v := range wrong() {
		for site := -1; site < 18; site++ {
			if got, e := v.Tick(site); len(got) != 0 || e != api.ErrArg {
				t.Errorf("P6.2, R1: %v.Tick(%d): %v, %d", v, site, got, e)
			}
		}
	}
	full := Vec{most, -1}
	if got, e := full.Tick(0); len(got) != 0 || e != api.ErrArg {
		t.Errorf("R2: %v.Tick(0): %v, %d", full, got, e)
	}
}

// A number that is full does not keep the others from going on.
func TestTickBesideFull(t *testing.T) {
	v := Vec{most, 4}
	if got, e := v.Tick(1); !slices.Equal(got, Vec{most, 5}) || e != api.OK {
		t.Errorf("P6.2: %v, %d", got, e)
	}
}

func TestExample(t *testing.T) {
	v, w := Vec{1, 2}, Vec{2, 1}
	if compare(t, v, w) != Beside || !slices.Equal(join(t, v, w), Vec{2, 2}) || !slices.Equal(meet(t, v, w), Vec{1, 1}) {
		t.Error("P6.2, P6.3: the example")
	}
}

func TestNotTogether(t *testing.T) {
	apart := func(v, w Vec) {
		t.Helper()
		if l, e := v.Join(w); len(l) != 0 || e != api.ErrArg {
			t.Errorf("P6.2, R3: %v.Join(%v): %v, %d", v, w, l, e)
		}
		if l, e := v.Meet(w); len(l) != 0 || e != api.ErrArg {
			t.Errorf("P6.2, R3: %v.Meet(%v): %v, %d", v, w, l, e)
		}
		if k, e := v.Compare(w); k != 0 || e != api.ErrArg {
			t.Errorf("P6.3, R3: %v.Compare(%v): %d, %d", v, w, k, e)
		}
	}
	for a := range 19 {
		for b := range 19 {
			if a != b {
				apart(make(Vec, a), make(Vec, b))
			}
		}
	}
	for _, v := range wrong() {
		apart(v, v)
		fits := make(Vec, len(v))
		apart(v, fits)
		apart(fits, v)
		ahead := slices.Repeat(Vec{most}, len(v))
		apart(v, ahead)
		apart(ahead, v)
	}
}

func TestTwo(t *testing.T) {
	look := func(v, w Vec) {
		t.Helper()
		j, m := join(t, v, w), meet(t, v, w)
		for i := range v {
			high, low := v[i], w[i]
			if high < low {
				high, low = low, high
			}
			if j[i] != high || m[i] != low {
				t.Errorf("P6.2: %v and %v: joined %v, met %v", v, w, j, m)
			}
		}
		want := Beside
		switch {
		case slices.Equal(v, w):
			want = Same
		case within(v, w):
			want = Before
		case within(w, v):
			want = After
		}
		if k := compare(t, v, w); k != want {
			t.Errorf("P6.3: %v.Compare(%v): %d, not %d", v, w, k, want)
		}
	}
	for sites := 1; sites <= 3; sites++ {
		for _, v := range vecs(sites, 3) {
			for _, w := range vecs(sites, 3) {
				look(v, w)
			}
		}
	}
	x := source(1)
	for range 5000 {
		sites := 1 + x.below(16)
		look(x.vec(sites), x.vec(sites))
	}
	for site := range 16 {
		v, w := make(Vec, 16), slices.Repeat(Vec{most}, 16)
		look(v, w)
		w[site] = 0
		v[site] = 1
		look(v, w)
		look(w, v)
	}
}

func TestCovers(t *testing.T) {
	v := Vec{0, 1, 5, most}
	for _, site := range []int{math.MinInt, -1, 0, 1, 2, 3, 4, 5, 16, math.MaxInt} {
		for _, seq := range []int{math.MinInt, -1, 0, 1, 2, 4, 5, 6, most - 1, most, most + 1, math.MaxInt} {
			want := site >= 0 && site < 4 && seq >= 1 && seq <= v[site]
			if v.Covers(site, seq) != want {
				t.Errorf("P6.3: Covers(%d, %d): %v", site, seq, !want)
			}
		}
	}
	for _, v := range wrong() {
		for site := -1; site < 18; site++ {
			if v.Covers(site, 1) || v.Covers(site, 0) || v.Covers(site, -1) {
				t.Errorf("P6.3, R1: %v covers one of %d", v, site)
			}
		}
	}
	for _, v := range []Vec{{7, -1}, {7, most + 1}, slices.Repeat(Vec{7}, 17)} {
		if v.Covers(0, 7) {
			t.Errorf("P6.3: %v may not be, and covers", v)
		}
	}
}

// Neither is after what they are joined to, and whatever else neither is after is no less; met, the other way.
func TestLeastAndGreatest(t *testing.T) {
	all := vecs(2, 4)
	for _, v := range all {
		for _, w := range all {
			j, m := join(t, v, w), meet(t, v, w)
			if !within(v, j) || !within(w, j) || !within(m, v) || !within(m, w) {
				t.Errorf("P6.4: %v and %v: joined %v, met %v", v, w, j, m)
			}
			for _, u := range all {
				if within(v, u) && within(w, u) && !within(j, u) {
					t.Errorf("P6.4: %v and %v: %v is less than %v", v, w, u, j)
				}
				if within(u, v) && within(u, w) && !within(u, m) {
					t.Errorf("P6.4: %v and %v: %v is greater than %v", v, w, u, m)
				}
			}
		}
	}
}

func TestWhicheverWayRound(t *testing.T) {
	mirrored := map[int]int{Same: Same, Before: After, After: Before, Beside: Beside}
	x := source(2)
	for range 3000 {
		sites := 1 + x.below(16)
		u, v, w := x.vec(sites), x.vec(sites), x.vec(sites)
		if !slices.Equal(join(t, v, w), join(t, w, v)) || !slices.Equal(meet(t, v, w), meet(t, w, v)) {
			t.Errorf("P6.4: %v and %v, the other way round", v, w)
		}
		if !slices.Equal(join(t, join(t, u, v), w), join(t, u, join(t, v, w))) || !slices.Equal(meet(t, meet(t, u, v), w), meet(t, u, meet(t, v, w))) {
			t.Errorf("P6.4: %v, %v and %v, put together otherwise", u, v, w)
		}
		if compare(t, w, v) != mirrored[compare(t, v, w)] {
			t.Errorf("P6.3: %v and %v, the other way round", v, w)
		}
		if k := compare(t, v, join(t, v, w)); k != Same && k != Before {
			t.Errorf("P6.4: %v is %d of what it is joined to", v, k)
		}
		if k := compare(t, meet(t, v, w), v); k != Same && k != Before {
			t.Errorf("P6.4: %v is %d to what it is met to", v, k)
		}
	}
}

func TestBehindATick(t *testing.T) {
	x := source(3)
	for range 1000 {
		v := x.vec(1 + x.below(16))
		site := x.below(len(v))
		w, e := v.Tick(site)
		if v[site] == most {
			continue
		}
		if e != api.OK || compare(t, w, v) != After || compare(t, v, w) != Before {
			t.Errorf("P6.4: %v behind a Tick(%d): %v, %d", v, site, w, e)
		}
		if v.Covers(site, w[site]) || !w.Covers(site, w[site]) {
			t.Errorf("P6.3: %v behind a Tick(%d): %v", v, site, w)
		}
	}
}

func TestMemory(t *testing.T) {
	for range 2 {
		v, w := Vec{1, 5, 77}[:2], Vec{2, 3, 88}[:2]
		zeros, _ := New(2)
		ticked, _ := v.Tick(1)
		answers := []Vec{zeros, ticked, join(t, v, w), meet(t, v, w), join(t, v, v), meet(t, w, w)}
		v.Compare(w)
		v.Covers(0, 1)
		for _, a := range answers {
			spare := a[:cap(a)]
			for i := range spare {
				spare[i] = 9
			}
		}
		if !slices.Equal(v[:3], Vec{1, 5, 77}) || !slices.Equal(w[:3], Vec{2, 3, 88}) {
			t.Errorf("R5: what was handed in is changed, or shared: %v, %v", v[:3], w[:3])
		}
		for i, a := range answers {
			for j := range a[:cap(a)] {
				a[:cap(a)][j] = i
			}
		}
		for i, a := range answers {
			if a[0] != i || a[1] != i {
				t.Errorf("R5: two answers share memory: %v", answers)
			}
		}
		one := join(t, v, w)
		if !slices.Equal(one, Vec{2, 5}) || !slices.Equal(join(t, v, w), one) {
			t.Errorf("R6: the same call again: %v", one)
		}
	}
}
