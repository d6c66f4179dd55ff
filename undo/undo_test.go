package undo

import (
	"math"
	"slices"
	"testing"

	"duet/api"
	"duet/view"
	"duet/weave"
)

const most = 1<<32 - 1

// source makes numbers that are the same in each run.
type source uint64

func (x *source) below(n int) int {
	*x = *x*6364136223846793005 + 1442695040888963407
	return int(*x>>33) % n
}

func id(time, site int) api.Id { return api.Id{Time: time, Site: site} }

func ins(x, ref api.Id, rune int) api.Op {
	return api.Op{Kind: api.Insert, Id: x, Ref: ref, Rune: rune}
}

func of(kind int, ref api.Id) api.Op { return api.Op{Kind: kind, Ref: ref} }

func same(a, b []api.Element) bool {
	return slices.EqualFunc(a, b, func(a, b api.Element) bool {
		return a.Id == b.Id && a.Ref == b.Ref && a.Rune == b.Rune && slices.Equal(a.Users, b.Users)
	})
}

// apply asks Can, sees that this changed nothing, and that nothing changes with an error.
func apply(t *testing.T, what string, d *Doc, site int, o api.Op, want api.Errno) {
	t.Helper()
	before, n := d.Elements(), d.Len()
	if can := d.Can(site, o); can != (want == api.OK) {
		t.Fatalf("P13.3: %s: Can(%d, %v): %v", what, site, o, can)
	}
	if !same(d.Elements(), before) || d.Len() != n {
		t.Fatalf("P13.3: %s: Can(%d, %v) made %v of %v", what, site, o, d.Elements(), before)
	}
	if e := d.Apply(site, o); e != want {
		t.Fatalf("%s: Apply(%d, %v): %d, not %d", what, site, o, e, want)
	}
	if want != api.OK && (!same(d.Elements(), before) || d.Len() != n) {
		t.Fatalf("%s, R3: Apply(%d, %v) made %v of %v", what, site, o, d.Elements(), before)
	}
}

func text(t *testing.T, what string, d *Doc, want string) {
	t.Helper()
	if s := view.Text(d.Elements()); s != want {
		t.Fatalf("%s: %q, not %q", what, s, want)
	}
}

func usersAre(t *testing.T, what string, d *Doc, at int, want ...int) {
	t.Helper()
	if l := d.Elements()[at].Users; !slices.Equal(l, want) {
		t.Fatalf("%s: users %v, not %v", what, l, want)
	}
}

// two is a line of site 0's a and, behind it, site 1's b.
func two(t *testing.T) *Doc {
	t.Helper()
	d := New()
	apply(t, "P13.2", d, 0, ins(id(1, 0), id(0, 0), 'a'), api.OK)
	apply(t, "P13.2", d, 1, ins(id(2, 1), id(1, 0), 'b'), api.OK)
	text(t, "P13.2", d, "ab")
	return d
}

func TestNew(t *testing.T) {
	d := New()
	if d == nil {
		t.Fatal("P13.1: New is nil")
	}
	if d.Len() != 0 || len(d.Elements()) != 0 {
		t.Errorf("P13.1: new: %d, %v", d.Len(), d.Elements())
	}
	for kind := api.Delete; kind <= api.Redo; kind++ {
		apply(t, "P13.2: new", d, 0, of(kind, id(1, 0)), api.ErrNone)
		apply(t, "P13.2: new", d, 0, of(kind, id(0, 0)), api.ErrNone)
	}
	two(t)
	if d.Len() != 0 {
		t.Errorf("P13.1: two share a line")
	}
}

func TestNil(t *testing.T) {
	for what, d := range map[string]*Doc{"nil": nil, "one that New did not make": {}} {
		if d.Len() != 0 || len(d.Elements()) != 0 {
			t.Errorf("P13.1, R1: %s: %d, %v", what, d.Len(), d.Elements())
		}
	}
	var d *Doc
	for kind := -1; kind <= 9; kind++ {
		for _, site := range []int{-1, 0, 15, 16} {
			apply(t, "P13.1, R1: nil", d, site, api.Op{Kind: kind, Id: id(1, site), Rune: 'a'}, api.ErrArg)
			apply(t, "P13.1, R1: nil", d, site, of(kind, id(1, 0)), api.ErrArg)
		}
	}
	(&Doc{}).Apply(0, ins(id(1, 0), id(0, 0), 'a'))
	(&Doc{}).Apply(0, of(api.Undo, id(1, 0)))
}

func TestElements(t *testing.T) {
	d := two(t)
	apply(t, "P13.2", d, 0, ins(id(3, 0), id(1, 0), 'c'), api.OK)
	apply(t, "P13.2", d, 15, ins(id(3, 15), id(0, 0), 0x10ffff), api.OK)
	apply(t, "P13.2", d, 2, of(api.Delete, id(2, 1)), api.OK)
	want := []api.Element{{Id: id(3, 15), Rune: 0x10ffff}, {Id: id(1, 0), Rune: 'a'}, {Id: id(3, 0), Ref: id(1, 0), Rune: 'c'}, {Id: id(2, 1), Ref: id(1, 0), Rune: 'b', Users: []int{2}}}
	if l := d.Elements(); !same(l, want) {
		t.Errorf("P13.1: %v, not %v", l, want)
	}
	if d.Len() != 4 {
		t.Errorf("P13.1: %d elements, one of them not seen, not 4", d.Len())
	}
}

// All users delete a, in no order; then its maker takes back that it made it: Users has each one once.
func TestUsersRise(t *testing.T) {
	d := two(t)
	var want []int
	for i := range api.MaxSites {
		user := (i*7 + 3) % api.MaxSites
		apply(t, "P13.1", d, user, of(api.Delete, id(1, 0)), api.OK)
		want = append(want, user)
		slices.Sort(want)
		usersAre(t, "P13.1", d, 0, want...)
	}
	apply(t, "P13.1", d, 0, of(api.Undo, id(1, 0)), api.OK)
	usersAre(t, "P13.1: 0 took its Delete back", d, 0, want[1:]...)
	apply(t, "P13.1", d, 0, of(api.Undo, id(1, 0)), api.OK)
	usersAre(t, "P13.1: HID alone is one, too", d, 0, want...)
	apply(t, "P13.1", d, 0, of(api.Delete, id(1, 0)), api.OK)
	usersAre(t, "P13.1: GONE and HID are one user", d, 0, want...)
	for user := range api.MaxSites {
		apply(t, "P13.1", d, user, of(api.Undo, id(1, 0)), api.OK)
	}
	usersAre(t, "P13.1: HID is left", d, 0, 0)
	usersAre(t, "P13.1: b is another one", d, 1)
}

// Each state of the flags that can come to be: how, and what each op makes of it. The numbers are Delete's, Undo's and Redo's.
func TestFlags(t *testing.T) {
	const del, und, red, ok = api.Delete, api.Undo, api.Redo, api.OK
	type then struct {
		e    api.Errno
		seen bool
	}
	for _, c := range []struct {
		what string
		site int // of a, which 0 made
		path []int
		seen bool
		then [3]then // by del, und, red
	}{
		{"none, own", 0, nil, true, [3]then{{ok, false}, {ok, false}, {api.ErrDeny, true}}},
		{"GONE, own", 0, []int{del}, false, [3]then{{api.ErrOld, false}, {ok, true}, {api.ErrDeny, false}}},
		{"BACK, own", 0, []int{del, und}, true, [3]then{{ok, false}, {ok, false}, {ok, false}}},
		{"HID", 0, []int{und}, false, [3]then{{ok, false}, {api.ErrDeny, false}, {ok, true}}},
		{"GONE HID", 0, []int{und, del}, false, [3]then{{api.ErrOld, false}, {ok, false}, {ok, false}}},
		{"BACK HID", 0, []int{del, und, und}, false, [3]then{{ok, false}, {api.ErrDeny, false}, {ok, true}}},
		{"none, another's", 1, nil, true, [3]then{{ok, false}, {api.ErrDeny, true}, {api.ErrDeny, true}}},
		{"GONE, another's", 1, []int{del}, false, [3]then{{api.ErrOld, false}, {ok, true}, {api.ErrDeny, false}}},
		{"BACK, another's", 1, []int{del, und}, true, [3]then{{ok, false}, {api.ErrDeny, true}, {ok, false}}},
		{"GONE again, another's", 1, []int{del, und, red}, false, [3]then{{api.ErrOld, false}, {ok, true}, {api.ErrDeny, false}}},
		{"BACK is not, when it is deleted anew", 1, []int{del, und, del}, false, [3]then{{api.ErrOld, false}, {ok, true}, {api.ErrDeny, false}}},
		{"HID taken back, BACK as it was", 0, []int{del, und, und, red}, true, [3]then{{ok, false}, {ok, false}, {ok, false}}},
		{"HID first, then BACK is redone", 0, []int{del, und, und, red, red}, false, [3]then{{api.ErrOld, false}, {ok, true}, {api.ErrDeny, false}}},
		{"GONE HID, the Undo is of GONE", 0, []int{und, del, und}, false, [3]then{{ok, false}, {api.ErrDeny, false}, {ok, true}}},
		{"GONE HID, the Redo is of HID", 0, []int{und, del, red}, false, [3]then{{api.ErrOld, false}, {ok, true}, {api.ErrDeny, false}}},
	} {
		for i, kind := range []int{del, und, red} {
			d := two(t)
			for _, k := range c.path {
				apply(t, "P13.2: "+c.what, d, c.site, of(k, id(1, 0)), api.OK)
			}
			isSeen(t, "P13.2: "+c.what, d, c.seen)
			apply(t, "P13.2: "+c.what, d, c.site, of(kind, id(1, 0)), c.then[i].e)
			isSeen(t, "P13.2: "+c.what, d, c.then[i].seen)
		}
	}
}

// isSeen tells of a; b is always seen.
func isSeen(t *testing.T, what string, d *Doc, want bool) {
	t.Helper()
	if want {
		text(t, what, d, "ab")
	} else {
		text(t, what, d, "b")
	}
}

// Each one's flags are its own, of each element its own.
func TestEachItsOwn(t *testing.T) {
	d := two(t)
	apply(t, "P13.2", d, 2, of(api.Delete, id(1, 0)), api.OK)
	apply(t, "P13.2", d, 3, of(api.Delete, id(1, 0)), api.OK)
	apply(t, "P13.2: 1 did nothing", d, 1, of(api.Undo, id(1, 0)), api.ErrDeny)
	apply(t, "P13.2", d, 2, of(api.Undo, id(1, 0)), api.OK)
	text(t, "P13.2: 3 deleted it, too", d, "b")
	apply(t, "P13.2: 3 took nothing back", d, 3, of(api.Redo, id(1, 0)), api.ErrDeny)
	apply(t, "P13.2: 2 took back what it did to a, not to b", d, 2, of(api.Redo, id(2, 1)), api.ErrDeny)
	apply(t, "P13.2", d, 3, of(api.Undo, id(1, 0)), api.OK)
	text(t, "P13.2: both took it back", d, "ab")
	apply(t, "P13.2: who did not make b", d, 0, of(api.Undo, id(2, 1)), api.ErrDeny)
	apply(t, "P13.2: who made b", d, 1, of(api.Undo, id(2, 1)), api.OK)
	text(t, "P13.2", d, "a")
	apply(t, "P13.2: who did not make b", d, 0, of(api.Redo, id(2, 1)), api.ErrDeny)
	apply(t, "P13.2: who did not make b", d, 0, of(api.Delete, id(2, 1)), api.OK)
	usersAre(t, "P13.2", d, 1, 0, 1)
	apply(t, "P13.2: who made b", d, 1, of(api.Redo, id(2, 1)), api.OK)
	usersAre(t, "P13.2", d, 1, 0)
}

func TestWrongOps(t *testing.T) {
	d := two(t)
	wrong := []int{-1, 16, 17, most, math.MinInt, math.MaxInt}
	for _, site := range wrong {
		for kind := api.Insert; kind <= api.Redo; kind++ {
			apply(t, "P13.2: site", d, site, of(kind, id(1, 0)), api.ErrArg)
			apply(t, "P13.2, R2: site, ahead of no Ref", d, site, of(kind, id(9, 0)), api.ErrArg)
		}
		apply(t, "P13.2: site", d, site, ins(id(3, site), id(1, 0), 'c'), api.ErrArg)
	}
	for _, kind := range []int{0, -1, api.Caret, api.Propose, api.Ack, api.Withdraw, 9, 257, 1<<32 + 2, math.MinInt, math.MaxInt} {
		apply(t, "P13.2: kind", d, 0, of(kind, id(1, 0)), api.ErrArg)
		apply(t, "P13.2, R2: kind, ahead of no Ref", d, 0, of(kind, id(9, 0)), api.ErrArg)
		apply(t, "P13.2: kind", d, 0, api.Op{Kind: kind, Id: id(3, 0), Ref: id(1, 0), Rune: 'c'}, api.ErrArg)
	}
	for _, x := range []api.Id{{}, id(1, 1), id(2, 0), id(3, 0), id(0, 1), id(-1, 0), id(1, -1), id(1, 16), id(most, 15), id(math.MinInt, math.MaxInt), id(1<<32+1, 0)} {
		for kind := api.Delete; kind <= api.Redo; kind++ {
			for _, site := range []int{0, 1, 15} {
				apply(t, "P13.2: no such Ref", d, site, of(kind, x), api.ErrNone)
			}
		}
	}
	text(t, "R3", d, "ab")
}

func TestWrongInserts(t *testing.T) {
	d := two(t)
	for _, c := range []struct {
		what string
		site int
		o    api.Op
		want api.Errno
	}{
		{"another's Id", 2, ins(id(3, 1), id(1, 0), 'c'), api.ErrArg},
		{"another's Id, R2: ahead of ErrOld", 1, ins(id(1, 0), id(0, 0), 'a'), api.ErrArg},
		{"another's Id, R2: ahead of ErrNone", 1, ins(id(5, 0), id(4, 0), 'a'), api.ErrArg},
		{"there", 0, ins(id(1, 0), id(0, 0), 'a'), api.ErrOld},
		{"there, another rune", 0, ins(id(1, 0), id(0, 0), 'z'), api.ErrOld},
		{"there, R2: ahead of ErrNone", 1, ins(id(2, 1), id(1, 5), 'z'), api.ErrOld},
		{"behind none", 0, ins(id(5, 0), id(4, 0), 'a'), api.ErrNone},
		{"behind what is not earlier", 0, ins(id(2, 0), id(2, 1), 'a'), api.ErrArg},
		{"Time 0", 0, ins(id(0, 0), id(0, 0), 'a'), api.ErrArg},
		{"Time below 0", 0, ins(id(-1, 0), id(0, 0), 'a'), api.ErrArg},
		{"Time beyond", 0, ins(id(most+1, 0), id(0, 0), 'a'), api.ErrArg},
		{"a Ref that may not be", 0, ins(id(5, 0), id(0, 1), 'a'), api.ErrArg},
		{"a rune that may not be", 0, ins(id(5, 0), id(1, 0), 31), api.ErrArg},
		{"a rune that may not be", 0, ins(id(5, 0), id(1, 0), 0x110000), api.ErrArg},
		{"no rune, R2: ahead of ErrOld", 0, ins(id(1, 0), id(0, 0), 0), api.ErrArg},
		{"the last Time", 15, ins(id(most, 15), id(1, 0), 'x'), api.OK},
		{"behind it nothing may be", 15, ins(id(most, 15), id(most, 15), 'x'), api.ErrArg},
	} {
		apply(t, "P13.2: "+c.what, d, c.site, c.o, c.want)
	}
	text(t, "P13.2", d, "axb")
	apply(t, "P13.2: none of these left flags", d, 0, of(api.Delete, id(5, 0)), api.ErrNone)
}

// An Insert of what is there leaves its flags.
func TestInsertLeavesFlags(t *testing.T) {
	d := two(t)
	apply(t, "P13.2", d, 0, of(api.Delete, id(1, 0)), api.OK)
	apply(t, "P13.2", d, 0, ins(id(1, 0), id(0, 0), 'a'), api.ErrOld)
	usersAre(t, "P13.2", d, 0, 0)
	apply(t, "P13.2", d, 0, of(api.Delete, id(1, 0)), api.ErrOld)
}

// What Can tried is not there, and has no flags.
func TestCanLeavesNothing(t *testing.T) {
	d := two(t)
	c := ins(id(3, 2), id(2, 1), 'c')
	for range 3 {
		if !d.Can(2, c) {
			t.Fatal("P13.3: it can be inserted")
		}
	}
	for kind := api.Delete; kind <= api.Redo; kind++ {
		apply(t, "P13.3: only tried", d, 2, of(kind, id(3, 2)), api.ErrNone)
	}
	apply(t, "P13.3: only tried", d, 3, ins(id(4, 3), id(3, 2), 'd'), api.ErrNone)
	apply(t, "P13.3: tried, and done", d, 2, c, api.OK)
	apply(t, "P13.3", d, 3, ins(id(4, 3), id(3, 2), 'd'), api.OK)
	for kind := api.Delete; kind <= api.Redo; kind++ {
		d.Can(2, of(kind, id(3, 2)))
	}
	text(t, "P13.3", d, "abcd")
}

// The fields that an op's kind does not have are not looked at: by mesg's promises, not by this layer's, they are zero.
func TestOtherFields(t *testing.T) {
	d := two(t)
	apply(t, "P13.2: an epoch", d, 3, api.Op{Kind: api.Insert, Epoch: 77, Id: id(3, 3), Ref: id(2, 1), Rune: 'c'}, api.OK)
	for i, kind := range []int{api.Delete, api.Undo, api.Redo} {
		apply(t, "P13.2: other fields", d, 3, api.Op{Kind: kind, Epoch: -5, Id: id(1, 0), Ref: id(3, 3), Rune: -1}, api.OK)
		text(t, "P13.2: other fields", d, []string{"ab", "abc", "ab"}[i])
	}
}

func TestFull(t *testing.T) {
	d := New()
	for i := range api.MaxLine {
		if e := d.Apply(i%16, ins(id(i+1, i%16), id(0, 0), 'a')); e != api.OK {
			t.Fatalf("P13.2: element %d: %d", i, e)
		}
	}
	next := ins(id(api.MaxLine+1, 0), id(0, 0), 'a')
	apply(t, "P13.2: a full line", d, 0, next, api.ErrFull)
	apply(t, "P13.2, R2: ErrOld ahead of ErrFull", d, 0, ins(id(1, 0), id(0, 0), 'a'), api.ErrOld)
	apply(t, "P13.2, R2: ErrNone ahead of ErrFull", d, 0, ins(id(9999, 0), id(9998, 0), 'a'), api.ErrNone)
	apply(t, "P13.2: a full line's last", d, 15, of(api.Undo, id(api.MaxLine, 15)), api.OK)
	apply(t, "P13.2: what is not seen is there", d, 0, next, api.ErrFull)
	if l := d.Elements(); len(l) != api.MaxLine || d.Len() != api.MaxLine || !slices.Equal(l[0].Users, []int{15}) {
		t.Errorf("P13.1: %d elements, %v", len(l), l[0])
	}
}

// model has the flags in other words than the program's: as words.
type model struct {
	line  *weave.Line
	words map[api.Id][]map[string]bool
}

func newModel() *model {
	return &model{line: weave.New(), words: map[api.Id][]map[string]bool{}}
}

func (m *model) apply(site int, o api.Op) api.Errno {
	if o.Kind == api.Insert {
		if o.Id.Site != site {
			return api.ErrArg
		}
		e := m.line.Insert(o.Id, o.Ref, o.Rune)
		if e == api.OK {
			for range api.MaxSites {
				m.words[o.Id] = append(m.words[o.Id], map[string]bool{})
			}
		}
		return e
	}
	if _, is := m.line.Place(o.Ref); !is {
		return api.ErrNone
	}
	w := m.words[o.Ref][site]
	switch {
	case o.Kind == api.Delete && w["GONE"]:
		return api.ErrOld
	case o.Kind == api.Delete:
		w["GONE"], w["BACK"] = true, false
	case o.Kind == api.Undo && w["GONE"]:
		w["GONE"], w["BACK"] = false, true
	case o.Kind == api.Undo && site == o.Ref.Site && !w["HID"]:
		w["HID"] = true
	case o.Kind == api.Redo && w["HID"]:
		w["HID"] = false
	case o.Kind == api.Redo && w["BACK"]:
		w["BACK"], w["GONE"] = false, true
	default:
		return api.ErrDeny
	}
	return api.OK
}

func (m *model) elements() []api.Element {
	all := m.line.Elements()
	for i := range all {
		for user, w := range m.words[all[i].Id] {
			if w["GONE"] || w["HID"] {
				all[i].Users = append(all[i].Users, user)
			}
		}
	}
	return all
}

// anyOp is of one of a few elements, so that much of it is refused.
func anyOp(r *source, sites int) (int, api.Op) {
	site := r.below(sites)
	ref := id(r.below(6), r.below(sites))
	if r.below(4) > 0 {
		return site, of(api.Delete+r.below(3), ref)
	}
	x := id(1+r.below(5), site)
	if r.below(9) == 0 {
		x.Site = r.below(sites)
	}
	if r.below(3) == 0 {
		ref = id(0, 0)
	}
	return site, ins(x, ref, 'a'+r.below(26))
}

func TestAgainstModel(t *testing.T) {
	r := source(13)
	for range 60 {
		sites := 1 + r.below(api.MaxSites)
		d, m := New(), newModel()
		for range 300 {
			site, o := anyOp(&r, sites)
			apply(t, "P13.2: by chance", d, site, o, m.apply(site, o))
			if !same(d.Elements(), m.elements()) || d.Len() != m.line.Len() {
				t.Fatalf("P13.1, P13.2: after %d, %v: %v, not %v", site, o, d.Elements(), m.elements())
			}
		}
	}
}

// act is an op, and who did it.
type act struct {
	site int
	o    api.Op
}

// typed is a row of acts as they may be done one behind the other, none of them refused; so many are tried.
func typed(r *source, sites, tries int) []act {
	d := New()
	var ids []api.Id
	var acts []act
	for range tries {
		a := act{site: r.below(sites)}
		ref := id(0, 0)
		if len(ids) > 0 {
			ref = ids[r.below(len(ids))]
		}
		a.o = of(api.Delete+r.below(3), ref)
		if r.below(3) == 0 {
			a.o = ins(id(len(acts)+1, a.site), ref, 'a'+r.below(26))
		}
		if d.Apply(a.site, a.o) != api.OK {
			continue
		}
		if a.o.Kind == api.Insert {
			ids = append(ids, a.o.Id)
		}
		acts = append(acts, a)
	}
	return acts
}

// mixed is the same acts, each site's in its order, and each one behind the Insert of what it is of.
func mixed(r *source, acts []act, sites int) []act {
	var of [api.MaxSites][]act
	for _, a := range acts {
		of[a.site] = append(of[a.site], a)
	}
	made := map[api.Id]bool{{}: true}
	var l []act
	for len(l) < len(acts) {
		site := r.below(sites)
		if len(of[site]) == 0 || !made[of[site][0].o.Ref] {
			continue
		}
		a := of[site][0]
		of[site] = of[site][1:]
		made[a.o.Id] = true
		l = append(l, a)
	}
	return l
}

func TestMixed(t *testing.T) {
	r := source(134)
	for range 40 {
		sites := 2 + r.below(api.MaxSites-1)
		acts := typed(&r, sites, 300)
		var first []api.Element
		for turn := range 5 {
			d := New()
			for _, a := range mixed(&r, acts, sites) {
				if e := d.Apply(a.site, a.o); e != api.OK {
					t.Fatalf("P13.4: %d, %v: %d", a.site, a.o, e)
				}
			}
			if turn == 0 {
				first = d.Elements()
			}
			if !same(d.Elements(), first) {
				t.Fatalf("P13.4: mixed otherwise: %v, not %v", d.Elements(), first)
			}
		}
	}
}

// What is done, and taken back right behind that, leaves what was seen; and what is redone is as it was done.
func TestTakenBack(t *testing.T) {
	r := source(135)
	for range 200 {
		sites := 1 + r.below(api.MaxSites)
		acts := typed(&r, sites, 100)
		d := New()
		for _, a := range acts {
			x := a.o.Ref
			back, forth := api.Undo, api.Redo
			switch a.o.Kind {
			case api.Insert:
				x = a.o.Id
			case api.Undo:
				back, forth = api.Redo, api.Undo
			}
			before, mingled := view.Text(d.Elements()), hasBoth(d, a.site, x)
			apply(t, "P13.4", d, a.site, a.o, api.OK)
			after := view.Text(d.Elements())
			// Of an element that its maker both took back and deleted, Undo is of GONE first, Redo of HID: what the one did the other one does not take back.
			if mingled || hasBoth(d, a.site, x) {
				continue
			}
			apply(t, "P13.4: taken back", d, a.site, of(back, x), api.OK)
			text(t, "P13.4: taken back", d, before)
			apply(t, "P13.4: redone", d, a.site, of(forth, x), api.OK)
			text(t, "P13.4: redone", d, after)
		}
	}
}

// hasBoth tells whether the user has HID set, and GONE or BACK too.
func hasBoth(d *Doc, site int, x api.Id) bool {
	f := d.marks[x][site]
	return f&hid != 0 && f&(gone|back) != 0
}

func TestExample(t *testing.T) {
	d := New()
	apply(t, "example 1", d, 0, ins(id(1, 0), id(0, 0), 'a'), api.OK)
	apply(t, "example 1", d, 1, of(api.Delete, id(1, 0)), api.OK)
	text(t, "example 1", d, "")
	apply(t, "example 1", d, 1, of(api.Undo, id(1, 0)), api.OK)
	text(t, "example 1", d, "a")
}

// spoil writes over a list and its spare room.
func spoil(l []api.Element) {
	for i := range l {
		u := l[i].Users[:cap(l[i].Users)]
		for j := range u {
			u[j] = 99
		}
	}
	l = l[:cap(l)]
	for i := range l {
		l[i] = api.Element{Id: id(99, 99), Users: []int{99}}
	}
}

func TestMemory(t *testing.T) {
	r := source(5)
	d, m := New(), newModel()
	for range 200 {
		site, o := anyOp(&r, 5)
		if d.Apply(site, o) != m.apply(site, o) {
			t.Fatal("P13.2: not as the model")
		}
		first, second := d.Elements(), d.Elements()
		spoil(first)
		if !same(second, m.elements()) || !same(d.Elements(), m.elements()) {
			t.Fatalf("R5: spoiled: %v, %v, not %v", second, d.Elements(), m.elements())
		}
		for i := range second {
			spoil(second[i : i+1 : i+1])
			if !same(second[i+1:], m.elements()[i+1:]) {
				t.Fatalf("R5: lists of users share memory")
			}
		}
	}
}

func TestSameAgain(t *testing.T) {
	r := source(6)
	a, b := New(), New()
	for range 500 {
		site, o := anyOp(&r, 16)
		if a.Apply(site, o) != b.Apply(site, o) || !same(a.Elements(), b.Elements()) {
			t.Fatal("R6: the same calls, another answer")
		}
	}
}
