package purge

import (
	"math"
	"slices"
	"testing"

	"duet/api"
	"duet/mesg"
	"duet/undo"
	"duet/vec"
)

const most = 1<<32 - 1

// source makes numbers that are the same in each run.
type source uint64

func (x *source) below(n int) int {
	*x = *x*6364136223846793005 + 1442695040888963407
	return int(*x>>33) % n
}

func id(time, site int) api.Id { return api.Id{Time: time, Site: site} }

// message is site's seq-th one, of so many sites.
func message(sites, site, seq int, o api.Op) api.Msg {
	m := api.Msg{Site: site, Seq: seq, Know: make([]int, sites), Op: o}
	m.Know[site] = seq - 1
	return m
}

// typed is an Insert at the begin; its time is its seq.
func typed(sites, site, seq, epoch int) api.Msg {
	return message(sites, site, seq, api.Op{Kind: api.Insert, Epoch: epoch, Id: id(seq, site), Rune: 'a'})
}

// done is an op of Ref.
func done(sites, site, seq, epoch, kind int, ref api.Id) api.Msg {
	return message(sites, site, seq, api.Op{Kind: kind, Epoch: epoch, Ref: ref})
}

func same(a, b []api.Element) bool {
	return slices.EqualFunc(a, b, func(a, b api.Element) bool {
		return a.Id == b.Id && a.Ref == b.Ref && a.Rune == b.Rune && slices.Equal(a.Users, b.Users)
	})
}

// look is all that a shelf shows.
type look struct {
	base   int
	epochs []int
	lines  [][]api.Element
}

func seen(s *Shelf) look {
	l := look{base: s.Base(), epochs: s.Epochs()}
	for _, epoch := range l.epochs {
		l.lines = append(l.lines, s.Elements(epoch))
	}
	return l
}

func alike(a, b look) bool {
	return a.base == b.base && slices.Equal(a.epochs, b.epochs) && slices.EqualFunc(a.lines, b.lines, same)
}

func shelf(t *testing.T, sites int) *Shelf {
	t.Helper()
	s, e := New(sites)
	if s == nil || e != api.OK {
		t.Fatalf("P14.1: New(%d): %v, %d", sites, s, e)
	}
	return s
}

func apply(t *testing.T, what string, s *Shelf, m api.Msg, want api.Errno) {
	t.Helper()
	before := seen(s)
	if e := s.Apply(m); e != want {
		t.Fatalf("%s: Apply(%v): %d, not %d", what, m, e, want)
	}
	if want != api.OK && !alike(seen(s), before) {
		t.Fatalf("%s, R3: Apply(%v) made %v of %v", what, m, seen(s), before)
	}
}

func purge(t *testing.T, what string, s *Shelf, now int, stable vec.Vec, want int, wantE api.Errno) {
	t.Helper()
	before := seen(s)
	if n, e := s.Purge(now, stable); n != want || e != wantE {
		t.Fatalf("%s: Purge(%d, %v): %d, %d, not %d, %d", what, now, stable, n, e, want, wantE)
	}
	if wantE != api.OK && !alike(seen(s), before) {
		t.Fatalf("%s, R3: Purge(%d, %v) made %v of %v", what, now, stable, seen(s), before)
	}
}

func holds(t *testing.T, what string, s *Shelf, base int, epochs ...int) {
	t.Helper()
	if s.Base() != base || !slices.Equal(s.Epochs(), epochs) {
		t.Fatalf("%s: base %d, epochs %v, not %d, %v", what, s.Base(), s.Epochs(), base, epochs)
	}
}

func TestNew(t *testing.T) {
	for _, sites := range []int{0, -1, 17, most, math.MinInt, math.MaxInt} {
		if s, e := New(sites); s != nil || e != api.ErrArg {
			t.Errorf("P14.1: New(%d): %v, %d", sites, s, e)
		}
	}
	for sites := 1; sites <= api.MaxSites; sites++ {
		s := shelf(t, sites)
		holds(t, "P14.1: new", s, 0)
		if l := s.Elements(0); len(l) != 0 {
			t.Errorf("P14.1: new: %v", l)
		}
		purge(t, "P14.3: new", s, 0, make(vec.Vec, sites), 0, api.OK)
		holds(t, "P14.3: new", s, 0)
		apply(t, "P14.2: new", s, typed(sites, sites-1, 1, 0), api.OK)
		holds(t, "P14.2", s, 0, 0)
		holds(t, "P14.1: another one", shelf(t, sites), 0)
	}
}

func TestNil(t *testing.T) {
	for what, s := range map[string]*Shelf{"nil": nil, "one that New did not make": {}} {
		what = "P14.1, R1: " + what
		holds(t, what, s, 0)
		for _, epoch := range []int{0, 1, -1, math.MinInt, math.MaxInt} {
			if l := s.Elements(epoch); len(l) != 0 {
				t.Errorf("%s: %v", what, l)
			}
		}
		apply(t, what, s, typed(2, 0, 1, 0), api.ErrArg)
		apply(t, what, s, api.Msg{}, api.ErrArg)
		purge(t, what, s, 1, vec.Vec{1, 1}, 0, api.ErrArg)
		purge(t, what, s, 1, nil, 0, api.ErrArg)
	}
}

func TestElements(t *testing.T) {
	s := shelf(t, 3)
	apply(t, "P14.2", s, typed(3, 0, 1, 4), api.OK)
	apply(t, "P14.2", s, typed(3, 0, 1, 2), api.OK)
	apply(t, "P14.2", s, typed(3, 1, 2, 2), api.OK)
	apply(t, "P14.2", s, done(3, 2, 1, 2, api.Delete, id(1, 0)), api.OK)
	apply(t, "P14.2", s, done(3, 1, 3, 2, api.Delete, id(1, 0)), api.OK)
	holds(t, "P14.1: rising", s, 0, 2, 4)
	want := []api.Element{{Id: id(2, 1), Rune: 'a'}, {Id: id(1, 0), Rune: 'a', Users: []int{1, 2}}}
	if l := s.Elements(2); !same(l, want) {
		t.Errorf("P14.1: %v, not %v", l, want)
	}
	if l := s.Elements(4); !same(l, []api.Element{{Id: id(1, 0), Rune: 'a'}}) {
		t.Errorf("P14.1: each epoch has a line of its own: %v", l)
	}
	for _, epoch := range []int{0, 1, 3, 5, -1, -2, most, 1<<32 + 2, math.MinInt, math.MaxInt} {
		if l := s.Elements(epoch); len(l) != 0 {
			t.Errorf("P14.1: epoch %d has no line: %v", epoch, l)
		}
	}
}

func TestWrongMessages(t *testing.T) {
	s := shelf(t, 2)
	apply(t, "P14.2", s, typed(2, 0, 1, 3), api.OK)
	purge(t, "P14.3", s, 3, vec.Vec{0, 0}, 0, api.OK)
	holds(t, "P14.3", s, 3, 3)
	for what, spoil := range map[string]func(m *api.Msg){
		"no site":              func(m *api.Msg) { m.Site = 2 },
		"site below 0":         func(m *api.Msg) { m.Site = math.MinInt },
		"no seq":               func(m *api.Msg) { m.Seq, m.Know[1] = 0, -1 },
		"seq beyond":           func(m *api.Msg) { m.Seq, m.Know[1] = most+1, most },
		"seq and know":         func(m *api.Msg) { m.Know[1] = 7 },
		"knows less than none": func(m *api.Msg) { m.Know[0] = -1 },
		"knows of one site":    func(m *api.Msg) { m.Site, m.Know, m.Op.Id.Site = 0, []int{3}, 0 },
		"knows of three sites": func(m *api.Msg) { m.Know = append(m.Know, 0) },
		"knows of no site":     func(m *api.Msg) { m.Know = nil },
		"epoch below 0":        func(m *api.Msg) { m.Op.Epoch = -1 },
		"epoch beyond":         func(m *api.Msg) { m.Op.Epoch = most + 1 },
		"another's Id":         func(m *api.Msg) { m.Op.Id.Site = 0 },
		"no rune":              func(m *api.Msg) { m.Op.Rune = 0 },
		"no kind":              func(m *api.Msg) { m.Op.Kind = 0 },
		"kind 9":               func(m *api.Msg) { m.Op = api.Op{Kind: 9, Epoch: m.Op.Epoch, Ref: id(1, 0)} },
		"a Delete with a rune": func(m *api.Msg) { m.Op = api.Op{Kind: api.Delete, Epoch: m.Op.Epoch, Ref: id(1, 0), Rune: 'a'} },
		"a Caret":              func(m *api.Msg) { m.Op = api.Op{Kind: api.Caret, Epoch: m.Op.Epoch, Ref: id(1, 0)} },
		"a Caret at the begin": func(m *api.Msg) { m.Op = api.Op{Kind: api.Caret, Epoch: m.Op.Epoch} },
		"a Propose":            func(m *api.Msg) { m.Op = api.Op{Kind: api.Propose, Epoch: m.Op.Epoch, Id: id(9, 1)} },
		"an Ack":               func(m *api.Msg) { m.Op = api.Op{Kind: api.Ack, Epoch: m.Op.Epoch, Ref: id(1, 0)} },
		"a Withdraw":           func(m *api.Msg) { m.Op = api.Op{Kind: api.Withdraw, Epoch: m.Op.Epoch, Ref: id(1, 0)} },
	} {
		for _, epoch := range []int{0, 3, 4} {
			m := typed(2, 1, 4, epoch)
			spoil(&m)
			apply(t, "P14.2, R2: "+what, s, m, api.ErrArg)
		}
	}
	apply(t, "P14.2: below the base", s, typed(2, 1, 4, 2), api.ErrOld)
	apply(t, "P14.2: below the base", s, done(2, 1, 4, 0, api.Delete, id(1, 0)), api.ErrOld)
	apply(t, "P14.2", s, typed(2, 1, 4, 3), api.OK)
}

// undo's own errors, of a line that is there, and of one that is not: that leaves no line.
func TestErrorsOfUndo(t *testing.T) {
	s := shelf(t, 2)
	for _, kind := range []int{api.Delete, api.Undo, api.Redo} {
		apply(t, "P14.2: no line", s, done(2, 1, 1, 7, kind, id(1, 0)), api.ErrNone)
		holds(t, "P14.2: no line is left", s, 0)
	}
	behind := typed(2, 1, 9, 7)
	behind.Op.Ref = id(8, 0)
	apply(t, "P14.2: behind what is not there", s, behind, api.ErrNone)
	holds(t, "P14.2: no line is left", s, 0)

	apply(t, "P14.2", s, typed(2, 0, 1, 7), api.OK)
	apply(t, "P14.2: again", s, typed(2, 0, 1, 7), api.ErrOld)
	apply(t, "P14.2: behind what is not there", s, behind, api.ErrNone)
	apply(t, "P14.2: 1 did not make it", s, done(2, 1, 9, 7, api.Undo, id(1, 0)), api.ErrDeny)
	apply(t, "P14.2: nothing to redo", s, done(2, 0, 9, 7, api.Redo, id(1, 0)), api.ErrDeny)
	apply(t, "P14.2", s, done(2, 1, 1, 7, api.Delete, id(1, 0)), api.OK)
	apply(t, "P14.2: deleted", s, done(2, 1, 9, 7, api.Delete, id(1, 0)), api.ErrOld)
	apply(t, "P14.2: in another epoch", s, done(2, 1, 9, 6, api.Undo, id(1, 0)), api.ErrNone)
	holds(t, "P14.2", s, 0, 7)
	purge(t, "P14.2: what was refused is not in the stamp", s, 8, vec.Vec{1, 1}, 1, api.OK)
}

func TestFullLine(t *testing.T) {
	s := shelf(t, 1)
	for i := range api.MaxLine {
		if e := s.Apply(typed(1, 0, i+1, 0)); e != api.OK {
			t.Fatalf("P14.2: %d: %d", i, e)
		}
	}
	apply(t, "P14.2: a full line", s, typed(1, 0, api.MaxLine+1, 0), api.ErrFull)
	apply(t, "P14.2: the next epoch's", s, typed(1, 0, api.MaxLine+1, 1), api.OK)
	purge(t, "P14.3: a full line", s, 1, vec.Vec{api.MaxLine}, api.MaxLine, api.OK)
	holds(t, "P14.3: a full line", s, 1, 1)
}

func TestTenEpochs(t *testing.T) {
	s := shelf(t, 2)
	for i := range 10 {
		apply(t, "P14.2: ten epochs", s, typed(2, 0, i+1, 90-10*i), api.OK)
	}
	holds(t, "P14.1: rising", s, 0, 0, 10, 20, 30, 40, 50, 60, 70, 80, 90)
	for _, epoch := range []int{1, 5, 91, most} {
		apply(t, "P14.2: an eleventh", s, typed(2, 0, 50, epoch), api.ErrFull)
		apply(t, "P14.2, R2: an eleventh, ahead of undo's", s, done(2, 0, 50, epoch, api.Delete, id(9, 0)), api.ErrFull)
	}
	caret := done(2, 0, 50, 91, api.Caret, id(1, 0))
	apply(t, "P14.2, R2: ErrArg ahead of ErrFull", s, caret, api.ErrArg)
	apply(t, "P14.2: one that has a line", s, typed(2, 1, 1, 90), api.OK)
	apply(t, "P14.2: undo's error of one that has a line", s, done(2, 1, 9, 90, api.Delete, id(9, 0)), api.ErrNone)
	purge(t, "P14.3", s, 11, vec.Vec{10, 0}, 2, api.OK)
	holds(t, "P14.3", s, 11, 20, 30, 40, 50, 60, 70, 80, 90)
	apply(t, "P14.2: below the base", s, typed(2, 0, 50, 10), api.ErrOld)
	apply(t, "P14.2", s, typed(2, 0, 50, 11), api.OK)
	apply(t, "P14.2", s, typed(2, 0, 51, most), api.OK)
	apply(t, "P14.2, R2: ErrOld ahead of ErrFull", s, typed(2, 0, 52, 9), api.ErrOld)
	apply(t, "P14.2: an eleventh", s, typed(2, 0, 52, 12), api.ErrFull)
	holds(t, "P14.2", s, 11, 11, 20, 30, 40, 50, 60, 70, 80, 90, most)
}

func TestWrongPurges(t *testing.T) {
	s := shelf(t, 2)
	apply(t, "P14.2", s, typed(2, 0, 1, 0), api.OK)
	for _, now := range []int{-1, most + 1, math.MinInt, math.MaxInt} {
		purge(t, "P14.3: now", s, now, vec.Vec{1, 1}, 0, api.ErrArg)
	}
	for _, v := range []vec.Vec{nil, {}, {1}, {1, 1, 1}, {-1, 1}, {1, -1}, {1, most + 1}, {math.MaxInt, 1}, {1, math.MinInt}, make(vec.Vec, 16), make(vec.Vec, 17)} {
		purge(t, "P14.3: stable", s, 5, v, 0, api.ErrArg)
		purge(t, "P14.3: stable, and now", s, -1, v, 0, api.ErrArg)
	}
	purge(t, "P14.3", s, most, vec.Vec{most, most}, 1, api.OK)
	holds(t, "P14.3: the last epoch", s, most)
	apply(t, "P14.2: the last epoch", s, typed(2, 0, most, most), api.OK)
	apply(t, "P14.2: below the last epoch", s, typed(2, 0, 5, most-1), api.ErrOld)
	purge(t, "P14.3: none is below", s, most, vec.Vec{most, most}, 0, api.OK)
	holds(t, "P14.3: the last epoch", s, most, most)
}

func TestExample(t *testing.T) {
	s := shelf(t, 2)
	apply(t, "example 1", s, typed(2, 0, 1, 0), api.OK)
	apply(t, "example 1", s, typed(2, 0, 2, 0), api.OK)
	apply(t, "example 1", s, done(2, 1, 1, 0, api.Delete, id(1, 0)), api.OK)
	purge(t, "example 1", s, 1, vec.Vec{2, 1}, 2, api.OK)
	holds(t, "example 1", s, 1)
}

// Each number of the stamp is held against the one of its site; what is stable may be more.
func TestCovered(t *testing.T) {
	for _, c := range []struct {
		now    int
		stable vec.Vec
		gone   int
		base   int
	}{
		{4, vec.Vec{5, 3, 0}, 2, 4},
		{4, vec.Vec{6, 4, 1}, 2, 4},
		{4, vec.Vec{most, most, most}, 2, 4},
		{4, vec.Vec{4, 3, 0}, 0, 3},
		{4, vec.Vec{5, 2, 9}, 0, 3},
		{4, vec.Vec{4, 9, 9}, 0, 3},
		{4, vec.Vec{3, 5, 0}, 0, 3},
		{3, vec.Vec{9, 9, 9}, 0, 3},
		{2, vec.Vec{9, 9, 9}, 0, 2},
		{0, vec.Vec{9, 9, 9}, 0, 0},
		{9, vec.Vec{5, 3, 0}, 2, 9},
		{9, vec.Vec{0, 0, 0}, 0, 3},
	} {
		s := shelf(t, 3)
		apply(t, "P14.2", s, typed(3, 0, 5, 3), api.OK)
		apply(t, "P14.2", s, typed(3, 1, 1, 3), api.OK)
		apply(t, "P14.2: the greater one stays in the stamp", s, done(3, 0, 2, 3, api.Delete, id(1, 1)), api.OK)
		apply(t, "P14.2: also of an op that made nothing", s, done(3, 1, 3, 3, api.Delete, id(1, 1)), api.OK)
		purge(t, "P14.3", s, c.now, c.stable, c.gone, api.OK)
		if c.gone > 0 {
			holds(t, "P14.3: gone", s, c.base)
		} else {
			holds(t, "P14.3: not gone", s, c.base, 3)
		}
	}
}

// Lines go by their own stamps: one in the midst may go, and those that stay hold the base.
func TestBase(t *testing.T) {
	s := shelf(t, 1)
	for i, seq := range []int{5, 1, 9, 2} {
		apply(t, "P14.2", s, typed(1, 0, seq, i+1), api.OK)
	}
	apply(t, "P14.2", s, done(1, 0, 3, 4, api.Undo, id(2, 0)), api.OK)
	purge(t, "P14.3: 2 is covered, 1 is not", s, 4, vec.Vec{4}, 1, api.OK)
	holds(t, "P14.3: 1 stays", s, 1, 1, 3, 4)
	purge(t, "P14.3", s, 4, vec.Vec{5}, 1, api.OK)
	holds(t, "P14.3: 3 stays", s, 3, 3, 4)
	apply(t, "P14.2: below the base", s, typed(1, 0, 6, 2), api.ErrOld)
	purge(t, "P14.3: now is below the base", s, 1, vec.Vec{9}, 0, api.OK)
	holds(t, "P14.3: never below what it was", s, 3, 3, 4)
	purge(t, "P14.3: now is below the base", s, 0, vec.Vec{9}, 0, api.OK)
	holds(t, "P14.3: never below what it was", s, 3, 3, 4)
	purge(t, "P14.3: 4 is now", s, 4, vec.Vec{9}, 1, api.OK)
	holds(t, "P14.3", s, 4, 4)
	purge(t, "P14.3: what is not seen counts", s, 20, vec.Vec{9}, 1, api.OK)
	holds(t, "P14.3: none is left", s, 20)
	purge(t, "P14.3: now is below the base", s, 5, vec.Vec{9}, 0, api.OK)
	holds(t, "P14.3: never below what it was", s, 20)
	apply(t, "P14.2: below the base", s, typed(1, 0, 10, 19), api.ErrOld)
	apply(t, "P14.2: at the base", s, typed(1, 0, 10, 20), api.OK)
	holds(t, "P14.2", s, 20, 20)
}

// A line that an epoch has got anew has a stamp of its own.
func TestNewStamp(t *testing.T) {
	s := shelf(t, 2)
	apply(t, "P14.2", s, typed(2, 0, 9, 0), api.OK)
	apply(t, "P14.2", s, typed(2, 0, 1, 1), api.OK)
	apply(t, "P14.2", s, typed(2, 0, 2, 2), api.OK)
	purge(t, "P14.3: each has its stamp", s, 3, vec.Vec{2, 0}, 2, api.OK)
	holds(t, "P14.3", s, 0, 0)
	apply(t, "P14.2: gone, but not below the base", s, typed(2, 0, 1, 1), api.OK)
	holds(t, "P14.2", s, 0, 0, 1)
	purge(t, "P14.3: zeros at first", s, 2, vec.Vec{1, 0}, 1, api.OK)
	holds(t, "P14.3", s, 0, 0)
}

// model is a shelf in other words than the program's: the messages that it took, by epochs.
type model struct {
	sites int
	base  int
	took  map[int][]api.Msg
}

func (m *model) line(epoch int) *undo.Doc {
	d := undo.New()
	for _, x := range m.took[epoch] {
		d.Apply(x.Site, x.Op)
	}
	return d
}

func (m *model) apply(x api.Msg) api.Errno {
	switch k := x.Op.Kind; {
	case mesg.Check(x) != api.OK || len(x.Know) != m.sites || k < 1 || k > 4:
		return api.ErrArg
	case x.Op.Epoch < m.base:
		return api.ErrOld
	case len(m.took[x.Op.Epoch]) == 0 && len(m.took) == 10:
		return api.ErrFull
	}
	if e := m.line(x.Op.Epoch).Apply(x.Site, x.Op); e != api.OK {
		return e
	}
	m.took[x.Op.Epoch] = append(m.took[x.Op.Epoch], x)
	return api.OK
}

func (m *model) epochs() []int {
	var l []int
	for epoch := range m.took {
		l = append(l, epoch)
	}
	slices.Sort(l)
	return l
}

func (m *model) purge(now int, stable vec.Vec) int {
	gone := 0
	for _, epoch := range m.epochs() {
		beyond := func(x api.Msg) bool { return x.Seq > stable[x.Site] }
		if epoch < now && !slices.ContainsFunc(m.took[epoch], beyond) {
			gone += m.line(epoch).Len()
			delete(m.took, epoch)
		}
	}
	base := now
	if l := m.epochs(); len(l) > 0 && l[0] < now {
		base = l[0]
	}
	if base > m.base {
		m.base = base
	}
	return gone
}

func (m *model) seen() look {
	l := look{base: m.base, epochs: m.epochs()}
	for _, epoch := range l.epochs {
		l.lines = append(l.lines, m.line(epoch).Elements())
	}
	return l
}

// anyMessage is of one of a few elements and epochs, so that much of it is refused.
func anyMessage(r *source, sites, from int) api.Msg {
	site, seq, epoch := r.below(sites), 1+r.below(30), max(0, from-2)+r.below(14)
	ref := id(1+r.below(6), r.below(sites))
	if r.below(2) == 0 {
		return done(sites, site, seq, epoch, api.Delete+r.below(5), ref)
	}
	if r.below(2) == 0 {
		ref = id(0, 0)
	}
	return message(sites, site, seq, api.Op{Kind: api.Insert, Epoch: epoch, Id: id(1+r.below(6), site), Ref: ref, Rune: 'a' + r.below(26)})
}

func anyStable(r *source, sites int) vec.Vec {
	v := make(vec.Vec, sites)
	for i := range v {
		v[i] = r.below(32)
		if r.below(2) == 0 {
			v[i] = 30
		}
	}
	return v
}

func TestAgainstModel(t *testing.T) {
	r := source(14)
	gone, full := 0, 0
	for range 60 {
		sites := 1 + r.below(4)
		s, m := shelf(t, sites), &model{sites: sites, took: map[int][]api.Msg{}}
		for range 150 {
			if r.below(15) > 0 {
				x := anyMessage(&r, sites, m.base)
				want := m.apply(x)
				apply(t, "P14.2: by chance", s, x, want)
				if want == api.ErrFull {
					full++
				}
			} else {
				now, v := m.base+r.below(6)-2, anyStable(&r, sites)
				now = max(now, 0)
				from := seen(s)
				n := m.purge(now, v)
				purge(t, "P14.3: by chance", s, now, v, n, api.OK)
				untouched(t, now, from, s)
				gone += n
			}
			if !alike(seen(s), m.seen()) {
				t.Fatalf("P14.1 to P14.3: %v, not %v", seen(s), m.seen())
			}
		}
	}
	if gone < 100 || full < 100 {
		t.Fatalf("too little is tried: %d, %d", gone, full)
	}
}

// untouched sees that each line from now on is as it was.
func untouched(t *testing.T, now int, before look, s *Shelf) {
	t.Helper()
	for i, epoch := range before.epochs {
		if epoch >= now && !same(before.lines[i], s.Elements(epoch)) {
			t.Fatalf("P14.4: epoch %d, now %d: %v, not %v", epoch, now, s.Elements(epoch), before.lines[i])
		}
	}
}

func TestMemory(t *testing.T) {
	s := shelf(t, 2)
	m := typed(2, 0, 1, 0)
	know := slices.Clone(m.Know)
	apply(t, "P14.2", s, m, api.OK)
	if !slices.Equal(m.Know, know) {
		t.Error("R5: what is handed in is changed")
	}
	m.Know[0], m.Know[1] = 77, 77
	apply(t, "P14.2", s, typed(2, 0, 2, 5), api.OK)
	apply(t, "P14.2", s, done(2, 1, 1, 0, api.Delete, id(1, 0)), api.OK)
	was := seen(s)
	for range 2 {
		epochs := s.Epochs()
		epochs = epochs[:cap(epochs)]
		for i := range epochs {
			epochs[i] = 99
		}
		l := s.Elements(0)
		l[0].Users[0] = 99
		l = l[:cap(l)]
		l[0] = api.Element{Id: id(99, 9)}
		if !alike(seen(s), was) {
			t.Fatalf("R5: spoiled: %v, not %v", seen(s), was)
		}
	}
	v := vec.Vec{0, 0}
	purge(t, "P14.3", s, 9, v, 0, api.OK)
	if v[0] != 0 || v[1] != 0 {
		t.Error("R5: what is handed in is changed")
	}
	v[0], v[1] = 9, 9
	purge(t, "P14.3", s, 9, vec.Vec{1, 0}, 0, api.OK)
	purge(t, "P14.3", s, 9, vec.Vec{1, 1}, 1, api.OK)
	holds(t, "P14.3", s, 5, 5)
}

func TestSameAgain(t *testing.T) {
	r := source(7)
	a, b := shelf(t, 3), shelf(t, 3)
	for range 400 {
		x := anyMessage(&r, 3, a.Base())
		if a.Apply(x) != b.Apply(x) {
			t.Fatal("R6: the same calls, another answer")
		}
		if r.below(20) == 0 {
			now, v := a.Base()+r.below(4), anyStable(&r, 3)
			n, e := a.Purge(now, v)
			if m, f := b.Purge(now, v); n != m || e != f {
				t.Fatal("R6: the same calls, another answer")
			}
		}
		if !alike(seen(a), seen(b)) {
			t.Fatal("R6: the same calls, another answer")
		}
	}
}
