package submit

import (
	"math"
	"slices"
	"testing"

	"duet/api"
	"duet/ident"
	"duet/mesg"
)

const most = 1<<32 - 1

// source makes numbers that are the same in each run.
type source uint64

func (x *source) below(n int) int {
	*x = *x*6364136223846793005 + 1442695040888963407
	return int(*x>>33) % n
}

func id(time, site int) api.Id { return api.Id{Time: time, Site: site} }

// op is of epoch 2, as all barriers here are.
func op(kind int, x api.Id) api.Op {
	if kind == api.Propose {
		return api.Op{Kind: kind, Epoch: 2, Id: x}
	}
	return api.Op{Kind: kind, Epoch: 2, Ref: x}
}

// message is that of a site that knows so much.
func message(kind int, x api.Id, site int, know ...int) api.Msg {
	return api.Msg{Site: site, Seq: know[site] + 1, Know: know, Op: op(kind, x)}
}

func proposes(x api.Id, know ...int) api.Msg { return message(api.Propose, x, x.Site, know...) }

func acks(x api.Id, site int, know ...int) api.Msg { return message(api.Ack, x, site, know...) }

func withdraws(x api.Id, know ...int) api.Msg { return message(api.Withdraw, x, x.Site, know...) }

// look is all that a barrier shows of some Ids.
type look struct {
	open []api.Id
	acks [][]int
	done api.Id
	past []int
	is   bool
}

func seen(b *Barrier, ids ...api.Id) look {
	l := look{open: b.Open()}
	for _, x := range ids {
		l.acks = append(l.acks, b.Acks(x))
	}
	l.done, l.past, l.is = b.Done()
	return l
}

func alike(a, b look) bool {
	return slices.Equal(a.open, b.open) && slices.EqualFunc(a.acks, b.acks, slices.Equal) && a.done == b.done && slices.Equal(a.past, b.past) && a.is == b.is
}

func barrier(t *testing.T, sites int) *Barrier {
	t.Helper()
	b, e := New(sites, 2)
	if b == nil || e != api.OK {
		t.Fatalf("P15.1: New(%d, 2): %v, %d", sites, b, e)
	}
	return b
}

// ofMessage has the Ids of which a message tells, and some more.
func ofMessage(m api.Msg) []api.Id {
	return []api.Id{m.Op.Id, m.Op.Ref, id(1, 0), id(1, 1), id(2, 0), id(2, 1), id(3, 2)}
}

// apply also asks May ahead of it, which is to say the same and to change nothing.
func apply(t *testing.T, what string, b *Barrier, m api.Msg, want api.Errno) {
	t.Helper()
	before := seen(b, ofMessage(m)...)
	if m.Site >= 0 && m.Site < len(m.Know) && m.Know[m.Site] == m.Seq-1 {
		if is := b.May(m.Site, m.Know, m.Op); is != (want == api.OK) {
			t.Fatalf("%s, P15.4: May(%d, %v, %v): %v", what, m.Site, m.Know, m.Op, is)
		}
		if after := seen(b, ofMessage(m)...); !alike(after, before) {
			t.Fatalf("%s, P15.4: May(%d, %v, %v) made %v of %v", what, m.Site, m.Know, m.Op, after, before)
		}
	}
	if e := b.Apply(m); e != want {
		t.Fatalf("%s: Apply(%v): %d, not %d", what, m, e, want)
	}
	if after := seen(b, ofMessage(m)...); want != api.OK && !alike(after, before) {
		t.Fatalf("%s, R3: Apply(%v) made %v of %v", what, m, after, before)
	}
}

func opens(t *testing.T, what string, b *Barrier, want ...api.Id) {
	t.Helper()
	if l := b.Open(); !slices.Equal(l, want) {
		t.Fatalf("%s: Open: %v, not %v", what, l, want)
	}
}

func acked(t *testing.T, what string, b *Barrier, x api.Id, want ...int) {
	t.Helper()
	if l := b.Acks(x); !slices.Equal(l, want) {
		t.Fatalf("%s: Acks(%v): %v, not %v", what, x, l, want)
	}
}

func notDone(t *testing.T, what string, b *Barrier) {
	t.Helper()
	if x, past, is := b.Done(); x != (api.Id{}) || len(past) != 0 || is {
		t.Fatalf("%s: Done: %v, %v, %v", what, x, past, is)
	}
}

func isDone(t *testing.T, what string, b *Barrier, want api.Id, past ...int) {
	t.Helper()
	if x, l, is := b.Done(); x != want || !slices.Equal(l, past) || !is {
		t.Fatalf("%s: Done: %v, %v, %v, not %v, %v", what, x, l, is, want, past)
	}
}

func TestNew(t *testing.T) {
	for _, c := range [][2]int{{0, 0}, {-1, 0}, {17, 0}, {most, 0}, {math.MinInt, 0}, {math.MaxInt, 0}, {1, -1}, {16, most + 1}, {1, math.MinInt}, {1, math.MaxInt}, {0, -1}} {
		if b, e := New(c[0], c[1]); b != nil || e != api.ErrArg {
			t.Errorf("P15.1: New(%d, %d): %v, %d", c[0], c[1], b, e)
		}
	}
	for sites := 1; sites <= api.MaxSites; sites++ {
		for _, epoch := range []int{0, 1, most} {
			b, e := New(sites, epoch)
			if b == nil || e != api.OK {
				t.Fatalf("P15.1: New(%d, %d): %v, %d", sites, epoch, b, e)
			}
			opens(t, "P15.1: new", b)
			acked(t, "P15.1: new", b, id(1, 0))
			notDone(t, "P15.1: new", b)
			m := proposes(id(1, sites-1), make([]int, sites)...)
			m.Op.Epoch = epoch
			apply(t, "P15.2", b, m, api.OK)
			opens(t, "P15.3", b, id(1, sites-1))
			m.Op.Id.Time, m.Op.Epoch = 2, (epoch+1)%(most+1)
			apply(t, "P15.2: another epoch", b, m, api.ErrArg)
		}
	}
}

func TestNil(t *testing.T) {
	for what, b := range map[string]*Barrier{"nil": nil, "one that New did not make": {}} {
		what = "P15.1, R1: " + what
		for _, epoch := range []int{0, 2} {
			for _, m := range []api.Msg{proposes(id(1, 0), 0), acks(id(1, 0), 0, 1), withdraws(id(1, 0), 1), {}} {
				m.Op.Epoch = epoch
				apply(t, what, b, m, api.ErrArg)
			}
		}
		if b.May(0, nil, api.Op{}) || b.May(0, []int{0}, api.Op{Kind: api.Propose, Id: id(1, 0)}) {
			t.Errorf("%s: May", what)
		}
		opens(t, what, b)
		acked(t, what, b, id(1, 0))
		acked(t, what, b, api.Id{})
		notDone(t, what, b)
	}
}

func TestExample(t *testing.T) {
	b, x := barrier(t, 2), id(1, 0)
	apply(t, "example 1", b, proposes(x, 0, 0), api.OK)
	notDone(t, "example 1", b)
	apply(t, "example 1", b, acks(x, 1, 1, 0), api.OK)
	notDone(t, "example 1", b)
	apply(t, "example 1", b, acks(x, 0, 1, 1), api.OK)
	isDone(t, "example 1", b, x, 1, 0)
}

func TestAlone(t *testing.T) {
	b, x := barrier(t, 1), id(7, 0)
	apply(t, "P15.2: one site", b, proposes(x, 4), api.OK)
	notDone(t, "P15.3: one site", b)
	apply(t, "P15.2: its own ack is all", b, acks(x, 0, 5), api.OK)
	isDone(t, "P15.3: one site", b, x, 5)
}

func TestWrongMessages(t *testing.T) {
	x := id(1, 1)
	for what, spoil := range map[string]func(m *api.Msg){
		"no site":              func(m *api.Msg) { m.Site = 2 },
		"site below 0":         func(m *api.Msg) { m.Site = math.MinInt },
		"no seq":               func(m *api.Msg) { m.Seq, m.Know[1] = 0, -1 },
		"seq beyond":           func(m *api.Msg) { m.Seq, m.Know[1] = most+1, most },
		"seq and know":         func(m *api.Msg) { m.Know[1] = 7 },
		"knows less than none": func(m *api.Msg) { m.Know[0] = -1 },
		"knows too much":       func(m *api.Msg) { m.Know[0] = most + 1 },
		"knows of one site":    func(m *api.Msg) { m.Site, m.Know = 0, []int{3}; m.Op.Id.Site, m.Op.Ref.Site = 0, 0 },
		"knows of three sites": func(m *api.Msg) { m.Know = append(m.Know, 0) },
		"knows of no site":     func(m *api.Msg) { m.Know = nil },
		"epoch below 0":        func(m *api.Msg) { m.Op.Epoch = -1 },
		"epoch beyond":         func(m *api.Msg) { m.Op.Epoch = most + 1 },
		"the epoch below":      func(m *api.Msg) { m.Op.Epoch = 1 },
		"the epoch above":      func(m *api.Msg) { m.Op.Epoch = 3 },
		"a rune":               func(m *api.Msg) { m.Op.Rune = 'a' },
		"no Id, no Ref":        func(m *api.Msg) { m.Op.Id, m.Op.Ref = api.Id{}, api.Id{} },
		"both Id and Ref":      func(m *api.Msg) { m.Op.Id, m.Op.Ref = id(2, 1), x },
		"of no site":           func(m *api.Msg) { m.Op.Id.Site, m.Op.Ref.Site = 2, 2 },
		"no kind":              func(m *api.Msg) { m.Op.Kind = 0 },
		"kind 9":               func(m *api.Msg) { m.Op = api.Op{Kind: 9, Epoch: 2, Ref: x} },
		"kind below 0":         func(m *api.Msg) { m.Op = api.Op{Kind: -8, Epoch: 2, Ref: x} },
		"an Insert":            func(m *api.Msg) { m.Op = api.Op{Kind: api.Insert, Epoch: 2, Id: id(2, 1), Rune: 'a'} },
		"a Delete":             func(m *api.Msg) { m.Op = op(api.Delete, x) },
		"an Undo":              func(m *api.Msg) { m.Op = op(api.Undo, x) },
		"a Redo":               func(m *api.Msg) { m.Op = op(api.Redo, x) },
		"a Caret":              func(m *api.Msg) { m.Op = op(api.Caret, x) },
		"a Caret at the begin": func(m *api.Msg) { m.Op = op(api.Caret, api.Id{}) },
	} {
		b := barrier(t, 2)
		apply(t, "P15.2", b, proposes(x, 0, 0), api.OK)
		for _, m := range []api.Msg{proposes(id(2, 1), 0, 3), withdraws(x, 0, 3), acks(x, 1, 0, 3), proposes(x, 0, 3), withdraws(id(3, 1), 0, 3), acks(id(3, 1), 1, 0, 3)} {
			spoil(&m)
			apply(t, "P15.2, R2: "+what, b, m, api.ErrArg)
		}
	}
}

func TestPropose(t *testing.T) {
	b := barrier(t, 3)
	apply(t, "P15.2: another's Id", b, message(api.Propose, id(5, 0), 1, 0, 0, 0), api.ErrArg)
	apply(t, "P15.2", b, proposes(id(5, 1), 0, 0, 0), api.OK)
	apply(t, "P15.2: the same again", b, proposes(id(5, 1), 0, 0, 0), api.ErrOld)
	apply(t, "P15.2: the Id again", b, proposes(id(5, 1), 9, 9, 9), api.ErrOld)
	apply(t, "P15.2: same time, other site", b, proposes(id(5, 0), 0, 0, 0), api.OK)
	apply(t, "P15.2: same site, other time", b, proposes(id(4, 1), 0, 1, 0), api.OK)
	apply(t, "P15.2", b, proposes(id(most, 2), 0, 0, most-1), api.OK)
	opens(t, "P15.3: rising", b, id(4, 1), id(5, 0), id(5, 1), id(most, 2))
	apply(t, "P15.2", b, withdraws(id(5, 0), 1, 0, 0), api.OK)
	apply(t, "P15.2: one that was withdrawn is there", b, proposes(id(5, 0), 2, 0, 0), api.ErrOld)
	opens(t, "P15.3: a withdrawn one is not open", b, id(4, 1), id(5, 1), id(most, 2))
}

func TestFull(t *testing.T) {
	b := barrier(t, 2)
	for i := range 100 {
		opensMany(t, b, i)
		apply(t, "P15.2: 100", b, proposes(id(100-i/2, i%2), i, i), api.OK)
	}
	opensMany(t, b, 100)
	if l := b.Open(); !slices.IsSortedFunc(l, func(a, b api.Id) int { return a.Time*2 + a.Site - b.Time*2 - b.Site }) {
		t.Errorf("P15.3: rising: %v", l)
	}
	apply(t, "P15.2: another one", b, proposes(id(200, 0), 100, 100), api.ErrFull)
	apply(t, "P15.2, R2: ErrOld ahead of ErrFull", b, proposes(id(70, 1), 100, 100), api.ErrOld)
	apply(t, "P15.2, R2: ErrArg ahead of ErrFull", b, message(api.Propose, id(200, 0), 1, 100, 100), api.ErrArg)
	apply(t, "P15.2: full, but of no matter", b, withdraws(id(70, 1), 100, 100), api.OK)
	apply(t, "P15.2: withdrawn ones are there", b, proposes(id(200, 0), 101, 101), api.ErrFull)
	apply(t, "P15.2: full, but of no matter", b, acks(id(60, 1), 0, 100, 100), api.OK)
}

func opensMany(t *testing.T, b *Barrier, want int) {
	t.Helper()
	if l := b.Open(); len(l) != want {
		t.Fatalf("P15.3: %d are open, not %d", len(l), want)
	}
}

// A proposal must be known: there, and its Seq covered by what the message knew of its site.
func TestAckOfNone(t *testing.T) {
	b, x := barrier(t, 3), id(5, 1)
	apply(t, "P15.2: nothing is there", b, acks(x, 0, 9, 9, 9), api.ErrNone)
	apply(t, "P15.2", b, proposes(x, 7, 3, 8), api.OK)
	apply(t, "P15.2: another time", b, acks(id(4, 1), 0, 9, 9, 9), api.ErrNone)
	apply(t, "P15.2: another site", b, acks(id(5, 2), 0, 9, 9, 9), api.ErrNone)
	for _, known := range []int{0, 1, 3} {
		apply(t, "P15.2: not known", b, acks(x, 0, 9, known, 9), api.ErrNone)
		apply(t, "P15.2, R2: not known, ahead of ErrDeny", b, acks(x, 1, 9, known, 9), api.ErrNone)
	}
	apply(t, "P15.2: just known", b, acks(x, 0, 0, 4, 0), api.OK)
	apply(t, "P15.2: well known", b, acks(x, 2, 0, most, 0), api.OK)
	apply(t, "P15.2, R2: ErrNone ahead of ErrOld", b, acks(x, 0, 9, 3, 9), api.ErrNone)
	apply(t, "P15.2", b, acks(x, 0, 9, 4, 9), api.ErrOld)
	acked(t, "P15.3: rising", b, x, 0, 2)
	acked(t, "P15.3: none is there", b, id(4, 1))
	acked(t, "P15.3: none is there", b, api.Id{})
	acked(t, "P15.3: none is there", b, id(math.MinInt, math.MaxInt))
}

// Who proposed acks last: it must know by which Seqs each other one did.
func TestMakersAck(t *testing.T) {
	x := id(5, 1)
	ready := func(t *testing.T) *Barrier {
		b := barrier(t, 3)
		apply(t, "P15.2", b, proposes(x, 0, 3, 0), api.OK)
		apply(t, "P15.2: none acked", b, acks(x, 1, 9, 9, 9), api.ErrDeny)
		apply(t, "P15.2", b, acks(x, 2, 0, 4, 6), api.OK)
		apply(t, "P15.2: 0 did not ack", b, acks(x, 1, 9, 9, 9), api.ErrDeny)
		apply(t, "P15.2", b, acks(x, 0, 4, 4, 0), api.OK)
		notDone(t, "P15.3: its own is missing", b)
		return b
	}
	for _, know := range [][]int{{0, 4, 0}, {4, 4, 7}, {5, 4, 6}, {4, 9, 6}, {most, 9, 6}, {4, 9, most}} {
		b := ready(t)
		apply(t, "P15.2: not covered", b, acks(x, 1, know...), api.ErrDeny)
		acked(t, "P15.3", b, x, 0, 2)
	}
	for _, know := range [][]int{{5, 4, 7}, {6, 9, 8}, {most, most - 1, most}} {
		b := ready(t)
		apply(t, "P15.2: covered", b, acks(x, 1, know...), api.OK)
		acked(t, "P15.3: rising", b, x, 0, 1, 2)
		isDone(t, "P15.3: the past is what it was proposed with", b, x, 0, 4, 0)
		apply(t, "P15.2: again", b, acks(x, 1, 9, 10, 9), api.ErrOld)
		apply(t, "P15.2: acked", b, withdraws(x, 9, 10, 9), api.ErrDeny)
		opens(t, "P15.3: it stays open", b, x)
	}
	b := ready(t)
	apply(t, "P15.2", b, withdraws(x, 5, 4, 7), api.OK)
	apply(t, "P15.2: withdrawn", b, acks(x, 1, 9, 9, 9), api.ErrDeny)
	apply(t, "P15.2: withdrawn, though by a later Seq", b, acks(x, 1, 9, 4, 9), api.ErrDeny)
	notDone(t, "P15.3", b)
}

// Others may ack one that was withdrawn: they may not have known of it.
func TestAckOfWithdrawn(t *testing.T) {
	b, x := barrier(t, 2), id(1, 0)
	apply(t, "P15.2", b, proposes(x, 0, 0), api.OK)
	apply(t, "P15.2", b, withdraws(x, 1, 0), api.OK)
	apply(t, "P15.2: another one's", b, acks(x, 1, 2, 0), api.OK)
	acked(t, "P15.3: also of a withdrawn one", b, x, 1)
	apply(t, "P15.2: its maker's", b, acks(x, 0, 2, 1), api.ErrDeny)
	opens(t, "P15.3", b)
	notDone(t, "P15.3", b)
}

// A site is bound by what it acked, till it knows that this was withdrawn.
func TestBound(t *testing.T) {
	x, y, z := id(1, 0), id(1, 1), id(3, 2)
	b := barrier(t, 4)
	apply(t, "P15.2", b, proposes(x, 4, 0, 0, 0), api.OK)
	apply(t, "P15.2", b, proposes(y, 0, 0, 0, 0), api.OK)
	apply(t, "P15.2", b, proposes(z, 0, 0, 0, 0), api.OK)
	apply(t, "P15.2", b, acks(x, 3, 5, 1, 1, 0), api.OK)
	apply(t, "P15.2: bound by x", b, acks(y, 3, most, 1, 1, 1), api.ErrDeny)
	apply(t, "P15.2: x binds its own alone", b, acks(y, 2, 5, 1, 1, 1), api.OK)
	apply(t, "P15.2, R2: ErrOld ahead of ErrDeny", b, acks(x, 3, 5, 1, 1, 1), api.ErrOld)
	apply(t, "P15.2, R2: ErrNone ahead of ErrDeny", b, acks(y, 3, 5, 0, 1, 1), api.ErrNone)

	apply(t, "P15.2", b, withdraws(x, 7, 0, 0, 0), api.OK)
	apply(t, "P15.2: x's end is not known", b, acks(y, 3, 7, most, most, 1), api.ErrDeny)
	apply(t, "P15.2: x's end is not known", b, acks(z, 3, 7, most, most, 1), api.ErrDeny)
	apply(t, "P15.2: x's end is known", b, acks(y, 3, 8, 1, 0, 1), api.OK)
	acked(t, "P15.3", b, x, 3)
	acked(t, "P15.3", b, y, 2, 3)

	apply(t, "P15.2: bound by y", b, acks(z, 3, 8, 1, 1, 2), api.ErrDeny)
	apply(t, "P15.2", b, withdraws(y, 0, 1, 0, 0), api.OK)
	apply(t, "P15.2: y's end is not known", b, acks(z, 3, most, 1, most, 2), api.ErrDeny)
	apply(t, "P15.2: x's end is not known", b, acks(z, 3, 7, 2, most, 2), api.ErrDeny)
	apply(t, "P15.2: both ends are known", b, acks(z, 3, 8, 2, 1, 2), api.OK)
}

// Who proposed is bound by what it acked of others, also in its own.
func TestMakerBound(t *testing.T) {
	x, y := id(1, 0), id(1, 1)
	b := barrier(t, 2)
	apply(t, "P15.2", b, proposes(x, 0, 0), api.OK)
	apply(t, "P15.2", b, proposes(y, 0, 0), api.OK)
	apply(t, "P15.2", b, acks(y, 0, 1, 1), api.OK)
	apply(t, "P15.2", b, acks(x, 1, 1, 1), api.OK)
	apply(t, "P15.2: 0 is bound by y", b, acks(x, 0, 2, 2), api.ErrDeny)
	apply(t, "P15.2: 1 is bound by x", b, acks(y, 1, 2, 2), api.ErrDeny)
	apply(t, "P15.2", b, withdraws(y, 2, 2), api.OK)
	apply(t, "P15.2: y's end is not known", b, acks(x, 0, 2, 2), api.ErrDeny)
	apply(t, "P15.2: it is known", b, acks(x, 0, 2, 3), api.OK)
	isDone(t, "P15.3", b, x, 1, 0)
}

func TestWithdraw(t *testing.T) {
	x, y := id(1, 0), id(1, 1)
	b := barrier(t, 2)
	apply(t, "P15.2: nothing is there", b, withdraws(x, 1, 0), api.ErrNone)
	apply(t, "P15.2, R2: ErrNone ahead of ErrDeny", b, message(api.Withdraw, x, 1, 1, 0), api.ErrNone)
	apply(t, "P15.2", b, proposes(x, 0, 0), api.OK)
	apply(t, "P15.2", b, proposes(y, 0, 0), api.OK)
	apply(t, "P15.2: another's", b, message(api.Withdraw, x, 1, 1, 1), api.ErrDeny)
	apply(t, "P15.2: another's, that it acked", b, acks(x, 1, 1, 1), api.OK)
	apply(t, "P15.2: another's, that it acked", b, message(api.Withdraw, x, 1, 1, 2), api.ErrDeny)
	apply(t, "P15.2: others' acks do not hold it", b, withdraws(x, 1, 0), api.OK)
	apply(t, "P15.2: again", b, withdraws(x, 2, 0), api.ErrOld)
	apply(t, "P15.2, R2: ErrDeny ahead of ErrOld", b, message(api.Withdraw, x, 1, 1, 2), api.ErrDeny)
	opens(t, "P15.3", b, y)
	apply(t, "P15.2: the Seq is the first withdrawal's", b, acks(y, 1, 1, 9), api.ErrDeny)
	apply(t, "P15.2", b, acks(y, 0, 2, 1), api.OK)
	apply(t, "P15.2: the Seq is the first withdrawal's", b, acks(y, 1, 3, 9), api.OK)
	isDone(t, "P15.3", b, y, 0, 1)
	apply(t, "P15.2: acked", b, withdraws(y, 9, 10), api.ErrDeny)
}

func TestMay(t *testing.T) {
	b, x := barrier(t, 2), id(1, 0)
	apply(t, "P15.2", b, proposes(x, 4, 0), api.OK)
	for i, c := range []struct {
		site int
		know []int
		o    api.Op
		want bool
	}{
		{1, []int{5, 0}, op(api.Ack, x), true},
		{1, []int{5, most - 1}, op(api.Ack, x), true},
		{1, []int{5, most}, op(api.Ack, x), false},
		{1, []int{5, math.MaxInt}, op(api.Ack, x), false},
		{1, []int{5, math.MinInt}, op(api.Ack, x), false},
		{1, []int{5, -1}, op(api.Ack, x), false},
		{1, []int{4, 0}, op(api.Ack, x), false},
		{0, []int{5, 0}, op(api.Ack, x), false},
		{2, []int{5, 0}, op(api.Ack, x), false},
		{-1, []int{5, 0}, op(api.Ack, x), false},
		{math.MinInt, []int{5, 0}, op(api.Ack, x), false},
		{math.MaxInt, []int{5, 0}, op(api.Ack, x), false},
		{1, []int{5, 0, 0}, op(api.Ack, x), false},
		{2, []int{5, 0, 0}, op(api.Ack, x), false},
		{0, []int{5}, op(api.Withdraw, x), false},
		{0, nil, op(api.Withdraw, x), false},
		{0, []int{5, 0}, op(api.Withdraw, x), true},
		{1, []int{5, 0}, op(api.Withdraw, x), false},
		{0, []int{5, 0}, op(api.Propose, x), false},
		{0, []int{5, 0}, op(api.Propose, id(2, 0)), true},
		{1, []int{5, 0}, op(api.Propose, id(2, 0)), false},
		{0, []int{5, 0}, op(api.Delete, x), false},
		{0, []int{5, 0}, api.Op{}, false},
		{0, []int{5, 0}, api.Op{Kind: api.Withdraw, Epoch: 3, Ref: x}, false},
		{0, []int{5, 0}, api.Op{Kind: api.Withdraw, Epoch: math.MinInt, Ref: x}, false},
	} {
		know := slices.Clone(c.know)
		if is := b.May(c.site, know, c.o); is != c.want {
			t.Errorf("P15.4: case %d: %v", i, is)
		}
		if !slices.Equal(know, c.know) {
			t.Errorf("R5: case %d: May changed what it was given: %v", i, know)
		}
		opens(t, "P15.4: May changes nothing", b, x)
		acked(t, "P15.4: May changes nothing", b, x)
	}
}

func TestMemory(t *testing.T) {
	b, x := barrier(t, 2), id(1, 0)
	room := make([]int, 8)
	m := proposes(x, room[:2]...)
	apply(t, "R5", b, m, api.OK)
	if slices.Max(room) != 0 {
		t.Errorf("R5: Apply changed what it was given: %v", room)
	}
	room[0], room[1] = 98, 99
	apply(t, "R5", b, acks(x, 1, 1, 0), api.OK)
	apply(t, "R5", b, acks(x, 0, 1, 1), api.OK)
	isDone(t, "R5: what is handed in is not kept", b, x, 1, 0)
	for range 2 {
		_, past, _ := b.Done()
		spoil(past, 97)
		spoil(b.Acks(x), 96)
		spoil(b.Open(), id(95, 1))
		isDone(t, "R5: what is answered is new", b, x, 1, 0)
		acked(t, "R5: what is answered is new", b, x, 0, 1)
		opens(t, "R5: what is answered is new", b, x)
	}
}

func spoil[T any](l []T, with T) {
	l = l[:cap(l)]
	for i := range l {
		l[i] = with
	}
}

// model is a barrier in other words than the program's: the messages that it took.
type model struct {
	sites int
	took  []api.Msg
}

// seq is by which one a site did such a thing to a proposal, and 0, if it did not.
func (m *model) seq(kind int, x api.Id, site int) int {
	for _, y := range m.took {
		if y.Op == op(kind, x) && y.Site == site {
			return y.Seq
		}
	}
	return 0
}

// proposed has the Ids in the order in which they came.
func (m *model) proposed() []api.Id {
	var l []api.Id
	for _, y := range m.took {
		if y.Op.Kind == api.Propose {
			l = append(l, y.Op.Id)
		}
	}
	return l
}

func (m *model) deniesAck(y api.Msg) bool {
	x := y.Op.Ref
	if x.Site == y.Site {
		if m.seq(api.Withdraw, x, x.Site) > 0 {
			return true
		}
		for site := range m.sites {
			by := m.seq(api.Ack, x, site)
			if site != y.Site && (by == 0 || by > y.Know[site]) {
				return true
			}
		}
	}
	return slices.ContainsFunc(m.proposed(), func(z api.Id) bool {
		end := m.seq(api.Withdraw, z, z.Site)
		return z != x && m.seq(api.Ack, z, y.Site) > 0 && (end == 0 || end > y.Know[z.Site])
	})
}

func (m *model) says(y api.Msg) api.Errno {
	if mesg.Check(y) != api.OK || len(y.Know) != m.sites || y.Op.Epoch != 2 || y.Op.Kind < api.Propose {
		return api.ErrArg
	}
	all, x := m.proposed(), y.Op.Ref
	own := x.Site == y.Site
	switch y.Op.Kind {
	case api.Propose:
		if slices.Contains(all, y.Op.Id) {
			return api.ErrOld
		}
		if len(all) == 100 {
			return api.ErrFull
		}
	case api.Ack:
		if !slices.Contains(all, x) || y.Know[x.Site] < m.seq(api.Propose, x, x.Site) {
			return api.ErrNone
		}
		if m.seq(api.Ack, x, y.Site) > 0 {
			return api.ErrOld
		}
		if m.deniesAck(y) {
			return api.ErrDeny
		}
	case api.Withdraw:
		if !slices.Contains(all, x) {
			return api.ErrNone
		}
		if !own || m.seq(api.Ack, x, y.Site) > 0 {
			return api.ErrDeny
		}
		if m.seq(api.Withdraw, x, x.Site) > 0 {
			return api.ErrOld
		}
	}
	return api.OK
}

func (m *model) seen(ids ...api.Id) look {
	var l look
	rising := ident.Order(m.proposed())
	for _, x := range rising {
		if m.seq(api.Withdraw, x, x.Site) == 0 {
			l.open = append(l.open, x)
		}
		if len(m.acks(x)) == m.sites && !l.is {
			at := slices.IndexFunc(m.took, func(y api.Msg) bool { return y.Op.Id == x })
			l.done, l.past, l.is = x, slices.Clone(m.took[at].Know), true
			l.past[x.Site]++
		}
	}
	for _, x := range ids {
		l.acks = append(l.acks, m.acks(x))
	}
	return l
}

func (m *model) acks(x api.Id) []int {
	var l []int
	for site := range m.sites {
		if m.seq(api.Ack, x, site) > 0 {
			l = append(l, site)
		}
	}
	return l
}

// anyMessage often is of what is there, and now and then may not be.
func anyMessage(r *source, sites int) api.Msg {
	kind := []int{api.Propose, api.Ack, api.Ack, api.Ack, api.Ack, api.Withdraw}[r.below(6)]
	x := id(1+r.below(3), r.below(sites))
	site := r.below(sites)
	if kind != api.Ack {
		site = x.Site
	}
	know := make([]int, sites)
	for i := range know {
		know[i] = r.below(8)
	}
	m := message(kind, x, site, know...)
	switch r.below(40) {
	case 0:
		m.Op.Epoch += r.below(3) - 1
	case 1:
		m.Op.Kind = r.below(10)
	case 2:
		m.Site = r.below(sites)
	case 3:
		m.Know = append(m.Know, 0)
	case 4:
		m.Seq += r.below(3) - 1
	}
	return m
}

func TestAgainstModel(t *testing.T) {
	r, dones, told := source(15), 0, map[api.Errno]int{}
	for range 3000 {
		sites := 1 + r.below(3)
		b, m := barrier(t, sites), &model{sites: sites}
		for range 60 {
			x := anyMessage(&r, sites)
			want := m.says(x)
			apply(t, "P15.2, as the model", b, x, want)
			if want == api.OK {
				m.took = append(m.took, x)
			}
			told[want]++
			ids := append(m.proposed(), x.Op.Id, x.Op.Ref)
			if have, want := seen(b, ids...), m.seen(ids...); !alike(have, want) {
				t.Fatalf("P15.3: %v, not %v, behind %v", have, want, m.took)
			}
		}
		if _, _, is := b.Done(); is {
			dones++
		}
	}
	if dones < 100 || told[api.ErrDeny] < 100 || told[api.ErrOld] < 100 || told[api.ErrNone] < 100 || told[api.ErrArg] < 100 {
		t.Errorf("the messages are too much alike: %d done, %v", dones, told)
	}
}

// member is a site with its own barrier, and how many messages of each site that one was told.
type member struct {
	*Barrier
	clock []int
}

// many are members that tell one another what they do, each behind what it knew.
type many struct {
	members []*member
	sent    []api.Msg
	said    map[[2]int]api.Errno // what the barrier of a message's own site said, by Site and Seq
	done    api.Id
}

func together(t *testing.T, sites int) *many {
	all := &many{said: map[[2]int]api.Errno{}}
	for range sites {
		all.members = append(all.members, &member{Barrier: barrier(t, sites), clock: make([]int, sites)})
	}
	return all
}

// does has a site send a message, be it one that may be or not.
func (all *many) does(t *testing.T, site int, o api.Op) {
	m := api.Msg{Site: site, Know: slices.Clone(all.members[site].clock), Op: o}
	m.Seq = m.Know[site] + 1
	all.sent = append(all.sent, m)
	all.told(t, site, m)
}

// told has a site take a message: it must say what each other one said, and what is done stays done.
func (all *many) told(t *testing.T, site int, m api.Msg) {
	t.Helper()
	at := all.members[site]
	e, name := at.Apply(m), [2]int{m.Site, m.Seq}
	at.clock[m.Site]++
	if first, is := all.said[name]; is && first != e {
		t.Fatalf("P15.5: Apply(%v): %d at site %d, %d elsewhere", m, e, site, first)
	}
	all.said[name] = e
	all.look(t)
}

func (all *many) look(t *testing.T) {
	t.Helper()
	for _, at := range all.members {
		x, _, is := at.Done()
		if is && all.done != (api.Id{}) && all.done != x {
			t.Fatalf("P15.5: %v and %v are done", all.done, x)
		}
		if is {
			all.done = x
		}
	}
}

// hears tells a site one of the messages that it can be told now, whichever; false: there is none.
func (all *many) hears(t *testing.T, r *source, site int) bool {
	var due []api.Msg
	clock := all.members[site].clock
	for _, m := range all.sent {
		ahead := false
		for i, n := range m.Know {
			ahead = ahead || n > clock[i]
		}
		if !ahead && m.Seq == clock[m.Site]+1 {
			due = append(due, m)
		}
	}
	if len(due) == 0 {
		return false
	}
	all.told(t, site, due[r.below(len(due))])
	return true
}

// acts has a site do something, mostly what may be.
func (all *many) acts(t *testing.T, r *source, site int) {
	at := all.members[site]
	o := op(api.Propose, id(1+len(all.sent), site))
	if l := at.rising(); len(l) > 0 && r.below(8) > 0 {
		o = op(api.Ack, l[r.below(len(l))])
		if r.below(4) == 0 {
			o.Kind = api.Withdraw
		}
	}
	if at.May(site, at.clock, o) || r.below(10) == 0 {
		all.does(t, site, o)
	}
}

func TestOneIsDone(t *testing.T) {
	r, dones := source(5), 0
	for range 600 {
		sites := 2 + r.below(3)
		all := together(t, sites)
		for range 120 {
			site := r.below(sites)
			was, _, done := all.members[site].Done()
			if r.below(3) == 0 {
				all.acts(t, &r, site)
			} else {
				all.hears(t, &r, site)
			}
			if is, _, _ := all.members[site].Done(); done && is != was {
				t.Fatalf("P15.5: %v was done, now it is %v", was, is)
			}
		}
		for site := range sites {
			for all.hears(t, &r, site) {
			}
		}
		if all.done != (api.Id{}) {
			dones++
		}
		var ids []api.Id
		for _, m := range all.sent {
			ids = append(ids, m.Op.Id)
		}
		for _, at := range all.members {
			if a, b := seen(at.Barrier, ids...), seen(all.members[0].Barrier, ids...); !alike(a, b) {
				t.Fatalf("P15.5: who heard the same has the same: %v, %v", a, b)
			}
		}
	}
	if dones < 50 {
		t.Errorf("only %d of the runs were done", dones)
	}
}

func TestSameAgain(t *testing.T) {
	run := func() []look {
		r, b := source(9), barrier(t, 3)
		var l []look
		for range 300 {
			m := anyMessage(&r, 3)
			b.Apply(m)
			l = append(l, seen(b, ofMessage(m)...))
		}
		return l
	}
	if !slices.EqualFunc(run(), run(), alike) {
		t.Errorf("R6: the same again is another one")
	}
}
