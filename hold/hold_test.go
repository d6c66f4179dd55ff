package hold

import (
	"math"
	"reflect"
	"slices"
	"testing"

	"duet/api"
	"duet/mesg"
	"duet/vec"
)

const most = 1<<32 - 1

// source makes numbers that are the same in each run.
type source uint64

func (x *source) below(n int) int {
	*x = *x*6364136223846793005 + 1442695040888963407
	return int(*x>>33) % n
}

// msg is a caret's message: Know's number of its site is put right.
func msg(site, seq int, know ...int) api.Msg {
	know = slices.Clone(know)
	know[site] = seq - 1
	return api.Msg{Site: site, Seq: seq, Know: know, Op: api.Op{Kind: api.Caret}}
}

func mustNew(t *testing.T, sites, room int) *Hold {
	t.Helper()
	h, e := New(sites, room)
	if h == nil || e != api.OK {
		t.Fatalf("P7.1: New(%d, %d): %d", sites, room, e)
	}
	return h
}

// sameList takes a list that is nil for one without elements.
func sameList(a, b []api.Msg) bool {
	return len(a) == len(b) && (len(a) == 0 || reflect.DeepEqual(a, b))
}

// put holds what a Put answers against what is awaited.
func put(t *testing.T, what string, h *Hold, m api.Msg, want api.Errno, told ...api.Msg) {
	t.Helper()
	l, e := h.Put(m)
	if e != want || !sameList(l, told) {
		t.Errorf("%s: Put(%v): %v, %d, not %v, %d", what, m, l, e, told, want)
	}
}

// is holds what a hold has against what is awaited.
func is(t *testing.T, what string, h *Hold, clock, known vec.Vec, waits int) {
	t.Helper()
	if !slices.Equal(h.Clock(), clock) || !slices.Equal(h.Known(), known) || h.Waits() != waits {
		t.Errorf("%s: clock %v, known %v, waits %d, not %v, %v, %d", what, h.Clock(), h.Known(), h.Waits(), clock, known, waits)
	}
}

func TestNew(t *testing.T) {
	for _, sites := range []int{math.MinInt, -1, 0, 1, 2, 15, 16, 17, 1000, 1<<32 + 1, math.MaxInt} {
		for _, room := range []int{math.MinInt, -1, 0, 1, 999, 1000, 1001, 1 << 32, math.MaxInt} {
			h, e := New(sites, room)
			if sites >= 1 && sites <= 16 && room >= 0 && room <= 1000 {
				if h == nil || e != api.OK {
					t.Fatalf("P7.1: New(%d, %d): %d", sites, room, e)
				}
				is(t, "P7.1: a new one", h, make(vec.Vec, sites), make(vec.Vec, sites), 0)
			} else if h != nil || e != api.ErrArg {
				t.Errorf("P7.1, R3: New(%d, %d): %v, %d", sites, room, h, e)
			}
		}
	}
}

func TestNil(t *testing.T) {
	var none *Hold
	for _, h := range []*Hold{none, {}} {
		for _, m := range []api.Msg{{}, msg(0, 1, 0), msg(1, 2, 0, 0), {Site: -1}} {
			put(t, "P7.1, R1: nil", h, m, api.ErrArg)
		}
		is(t, "P7.1, R1: nil", h, nil, nil, 0)
	}
}

func TestExample(t *testing.T) {
	for _, sites := range []int{1, 2, 16} {
		zeros := make([]int, sites)
		first, second := msg(0, 1, zeros...), msg(0, 2, zeros...)
		clock := make(vec.Vec, sites)
		known := slices.Clone(clock)
		known[0] = 2
		h := mustNew(t, sites, 1)
		put(t, "P7.2: the example", h, second, api.OK)
		is(t, "P7.2: the example", h, clock, known, 1)
		put(t, "P7.2: the example", h, first, api.OK, first, second)
		is(t, "P7.2: the example", h, known, known, 0)
	}
}

// wrong are messages that may not be, or know of another number of sites than three.
func wrong() []api.Msg {
	l := []api.Msg{{}, {Seq: 1, Op: api.Op{Kind: api.Caret}}}
	for _, sites := range []int{1, 2, 4, 16, 17, 1000} {
		l = append(l, msg(0, 1, make([]int, sites)...))
	}
	for _, site := range []int{math.MinInt, -1, 3, 16, math.MaxInt} {
		l = append(l, api.Msg{Site: site, Seq: 1, Know: make([]int, 3), Op: api.Op{Kind: api.Caret}})
	}
	for _, seq := range []int{math.MinInt, -1, 0, most + 1, math.MaxInt} {
		l = append(l, msg(1, seq, 0, 0, 0))
	}
	for _, n := range []int{math.MinInt, -1, most + 1, math.MaxInt} {
		l = append(l, msg(1, 1, 0, 0, n), msg(1, 1, n, 0, 0))
	}
	off := msg(1, 1, 0, 0, 0)
	off.Know[1] = 1
	kind := msg(1, 1, 0, 0, 0)
	kind.Op.Kind = 9
	r := msg(1, 1, 0, 0, 0)
	r.Op.Rune = 'a'
	insert := msg(1, 1, 0, 0, 0)
	insert.Op = api.Op{Kind: api.Insert, Id: api.Id{Time: 1, Site: 2}, Rune: 'a'}
	return append(l, off, kind, r, insert)
}

func TestWrong(t *testing.T) {
	h := mustNew(t, 3, 2)
	waits := msg(0, 2, 0, 0, 5)
	put(t, "P7.2", h, waits, api.OK)
	for _, m := range wrong() {
		put(t, "P7.2, R1", h, m, api.ErrArg)
		is(t, "R3: one that may not be", h, vec.Vec{0, 0, 0}, vec.Vec{2, 0, 5}, 1)
	}
	put(t, "R3", h, waits, api.ErrOld)
	covered, full := mustNew(t, 3, 0), msg(0, 3, 0, 0, 0)
	put(t, "P7.2", covered, msg(0, 1, 0, 0, 0), api.OK, msg(0, 1, 0, 0, 0))
	put(t, "P7.2", covered, full, api.ErrFull)
	old := msg(0, 1, 0, 0, 0)
	for _, m := range []api.Msg{old, full} {
		m.Op.Rune = 1
		put(t, "R2: wrong, and old or without room", covered, m, api.ErrArg)
	}
}

// others are messages of the same Site and Seq, each of them unlike m in one thing alone.
func others(m api.Msg) []api.Msg {
	var l []api.Msg
	for i := range m.Know {
		if i != m.Site {
			o := m
			o.Know = slices.Clone(m.Know)
			o.Know[i]++
			l = append(l, o)
		}
	}
	for _, op := range []api.Op{
		{Kind: api.Caret, Epoch: 1},
		{Kind: api.Caret, Ref: api.Id{Time: 1}},
		{Kind: api.Delete, Ref: api.Id{Time: 1}},
		{Kind: api.Delete, Ref: api.Id{Time: 1, Site: 1}},
		{Kind: api.Delete, Ref: api.Id{Time: 2}},
		{Kind: api.Propose, Id: api.Id{Time: 1, Site: m.Site}},
		{Kind: api.Insert, Id: api.Id{Time: 1, Site: m.Site}, Rune: 'a'},
		{Kind: api.Insert, Id: api.Id{Time: 1, Site: m.Site}, Rune: 'b'},
		{Kind: api.Insert, Id: api.Id{Time: 2, Site: m.Site}, Rune: 'a'},
		{Kind: api.Insert, Id: api.Id{Time: 2, Site: m.Site}, Ref: api.Id{Time: 1}, Rune: 'a'},
	} {
		o := m
		o.Op = op
		l = append(l, o)
	}
	return l
}

func TestOld(t *testing.T) {
	h := mustNew(t, 3, 5)
	for seq := 1; seq <= 4; seq++ {
		put(t, "P7.2", h, msg(1, seq, 0, 0, 0), api.OK, msg(1, seq, 0, 0, 0))
	}
	for seq := 1; seq <= 4; seq++ {
		put(t, "P7.2: told already", h, msg(1, seq, 0, 0, 0), api.ErrOld)
		for _, o := range others(msg(1, seq, 0, 0, 0)) {
			put(t, "P7.2: another one of a Seq that was told", h, o, api.ErrOld)
		}
	}
	waits := msg(0, 2, 0, 9, 9)
	put(t, "P7.2", h, waits, api.OK)
	for range 3 {
		put(t, "P7.2: it waits", h, waits, api.ErrOld)
		is(t, "P7.2: it waits", h, vec.Vec{0, 4, 0}, vec.Vec{2, 9, 9}, 1)
	}
	full := mustNew(t, 2, 1)
	put(t, "P7.2", full, msg(0, 2, 0, 0), api.OK)
	put(t, "R2: old, and without room", full, msg(0, 2, 0, 0), api.ErrOld)
	none := mustNew(t, 2, 0)
	put(t, "P7.2", none, msg(0, 1, 0, 0), api.OK, msg(0, 1, 0, 0))
	put(t, "R2: covered, not due, and without room", none, msg(0, 1, 0, 0), api.ErrOld)
}

// One that is not the same stands where the first one stood, and that one comes anew.
func TestAnotherOfItsPlace(t *testing.T) {
	first := msg(0, 2, 0, 3, 0)
	for _, room := range []int{1, 2, 1000} {
		for _, o := range others(first) {
			h := mustNew(t, 3, room)
			before := msg(0, 1, 0, 0, 0)
			put(t, "P7.2", h, first, api.OK)
			put(t, "P7.2: another one", h, o, api.OK)
			is(t, "P7.2: another one", h, vec.Vec{0, 0, 0}, vec.Vec{2, o.Know[1], o.Know[2]}, 1)
			put(t, "P7.2: another one, again", h, o, api.ErrOld)
			put(t, "P7.2: the first one, that waits no more", h, first, api.OK)
			put(t, "P7.2: another one, that waits no more", h, o, api.OK)
			put(t, "P7.2", h, before, api.OK, before)
			for i := 1; i <= 4; i++ {
				l, e := h.Put(msg(1, i, 0, 0, 0))
				want := []api.Msg{msg(1, i, 0, 0, 0)}
				if i == o.Know[1] && o.Know[2] == 0 {
					want = append(want, o)
				}
				if e != api.OK || !sameList(l, want) {
					t.Errorf("P7.2: another one is told: %v, %d, not %v", l, e, want)
				}
			}
		}
	}
}

func TestAnotherThatIsDue(t *testing.T) {
	for _, room := range []int{1, 2, 3} {
		h := mustNew(t, 2, room)
		waits, due, behind := msg(0, 1, 0, 5), msg(0, 1, 0, 0), msg(0, 2, 0, 0)
		put(t, "P7.2", h, waits, api.OK)
		if room > 1 {
			put(t, "P7.2", h, behind, api.OK)
			put(t, "P7.2: another one, that is due", h, due, api.OK, due, behind)
			is(t, "P7.2: another one, that is due", h, vec.Vec{2, 0}, vec.Vec{2, 0}, 0)
		} else {
			put(t, "P7.2: another one, that is due", h, due, api.OK, due)
			is(t, "P7.2: another one, that is due", h, vec.Vec{1, 0}, vec.Vec{1, 0}, 0)
		}
		put(t, "P7.2: covered", h, waits, api.ErrOld)
	}
}

func TestFull(t *testing.T) {
	for _, room := range []int{0, 1, 2, 3, 999, 1000} {
		h := mustNew(t, 2, room)
		var all []api.Msg
		for i := range room {
			m := msg(1, i+2, 0, 0)
			put(t, "P7.2: there is room", h, m, api.OK)
			all = append(all, m)
			if h.Waits() != i+1 {
				t.Fatalf("P7.1: %d wait, not %d", h.Waits(), i+1)
			}
		}
		known := vec.Vec{0, room + 1}
		if room == 0 {
			known[1] = 0
		}
		for _, m := range []api.Msg{msg(1, room+2, 0, 0), msg(0, 2, 0, 0), msg(0, 1, 0, 1), msg(1, most, most, 0)} {
			put(t, "P7.2: no room", h, m, api.ErrFull)
			is(t, "P7.2: no room", h, vec.Vec{0, 0}, known, room)
		}
		put(t, "P7.2: no room, but due", h, msg(0, 1, 0, 0), api.OK, msg(0, 1, 0, 0))
		known[0] = 1
		is(t, "P7.2: no room, but due", h, vec.Vec{1, 0}, known, room)
		if room > 0 {
			last := msg(1, room+1, 1, 0)
			put(t, "P7.2: no room, but for another one of a place", h, last, api.OK)
			all[room-1] = last
		}
		first := msg(1, 1, 0, 0)
		put(t, "P7.2: no room, but all told", h, first, api.OK, append([]api.Msg{first}, all...)...)
		is(t, "P7.2: all told", h, vec.Vec{1, room + 1}, vec.Vec{1, room + 1}, 0)
	}
}

// A message is due by each of its numbers: the own one, and those of the others, that may be less.
func TestDue(t *testing.T) {
	clock := vec.Vec{2, 3, 1}
	for seq := 1; seq <= 5; seq++ {
		for a := range 5 {
			for c := range 4 {
				h := mustNew(t, 3, 1)
				for site, n := range clock {
					for i := range n {
						h.Put(msg(site, i+1, 0, 0, 0))
					}
				}
				m := msg(1, seq, a, 0, c)
				switch {
				case seq <= 3:
					put(t, "P7.2: covered", h, m, api.ErrOld)
				case seq == 4 && a <= 2 && c <= 1:
					put(t, "P7.2: due", h, m, api.OK, m)
					is(t, "P7.2: due", h, vec.Vec{2, 4, 1}, vec.Vec{2, 4, 1}, 0)
				default:
					put(t, "P7.2: not due", h, m, api.OK)
					is(t, "P7.2: not due", h, clock, vec.Vec{max(2, a), seq, max(1, c)}, 1)
				}
			}
		}
	}
}

// Of those that are due the lowest site's is told first, even if it became due by the last one.
func TestLowestFirst(t *testing.T) {
	h := mustNew(t, 4, 10)
	key := msg(2, 1, 0, 0, 0, 0)
	low, low2 := msg(0, 1, 0, 1, 1, 0), msg(0, 2, 0, 1, 1, 0)
	mid, mid2 := msg(1, 1, 0, 0, 1, 0), msg(1, 2, 0, 0, 1, 0)
	next, high := msg(2, 2, 0, 0, 0, 0), msg(3, 1, 0, 0, 1, 0)
	for _, m := range []api.Msg{high, next, mid2, low2, mid, low} {
		put(t, "P7.2", h, m, api.OK)
	}
	is(t, "P7.1", h, vec.Vec{0, 0, 0, 0}, vec.Vec{2, 2, 2, 1}, 6)
	put(t, "P7.2: the lowest site first", h, key, api.OK, key, mid, low, low2, mid2, next, high)
	is(t, "P7.2", h, vec.Vec{2, 2, 2, 1}, vec.Vec{2, 2, 2, 1}, 0)
}

func TestKnown(t *testing.T) {
	h := mustNew(t, 3, 4)
	put(t, "P7.2", h, msg(2, 1, 0, 0, 0), api.OK, msg(2, 1, 0, 0, 0))
	for _, c := range []struct {
		m     api.Msg
		known vec.Vec
	}{
		{msg(0, 1, 0, 7, 0), vec.Vec{1, 7, 1}},
		{msg(0, 3, 0, 6, 9), vec.Vec{3, 7, 9}},
		{msg(1, most, 2, 0, 8), vec.Vec{3, most, 9}},
		{msg(0, most, 0, most, most), vec.Vec{most, most, most}},
		{msg(0, most, 0, 0, 0), vec.Vec{most, most, 9}},
		{msg(1, most, most, 0, 0), vec.Vec{most, most, 9}},
	} {
		put(t, "P7.2", h, c.m, api.OK)
		if !slices.Equal(h.Known(), c.known) || !slices.Equal(h.Clock(), vec.Vec{0, 0, 1}) {
			t.Errorf("P7.1: with %v: known %v, not %v", c.m, h.Known(), c.known)
		}
	}
	if h.Waits() != 4 {
		t.Errorf("P7.1: %d wait", h.Waits())
	}
}

// The last Seq that there is can be told as any other one.
func TestLastSeq(t *testing.T) {
	h := mustNew(t, 2, 0)
	h.clock[1] = most - 1
	last := msg(1, most, 0, 0)
	put(t, "P7.2: the last Seq", h, last, api.OK, last)
	is(t, "P7.2: the last Seq", h, vec.Vec{0, most}, vec.Vec{0, most}, 0)
	put(t, "P7.2: the last Seq", h, last, api.ErrOld)
	put(t, "P7.2: behind the last Seq", h, msg(1, most+1, 0, 0), api.ErrArg)
	put(t, "P7.2: beside the last Seq", h, msg(0, 1, 0, most), api.OK, msg(0, 1, 0, most))
}

// model does by a list what the document's words say.
type model struct {
	room  int
	clock []int
	wait  []api.Msg
}

func (o *model) due(m api.Msg) bool {
	for i, n := range m.Know {
		if i != m.Site && n > o.clock[i] {
			return false
		}
	}
	return m.Seq == o.clock[m.Site]+1
}

func (o *model) put(m api.Msg) ([]api.Msg, api.Errno) {
	if mesg.Check(m) != api.OK || len(m.Know) != len(o.clock) {
		return nil, api.ErrArg
	}
	if m.Seq <= o.clock[m.Site] {
		return nil, api.ErrOld
	}
	var rest []api.Msg
	for _, w := range o.wait {
		if reflect.DeepEqual(w, m) {
			return nil, api.ErrOld
		}
		if w.Site != m.Site || w.Seq != m.Seq {
			rest = append(rest, w)
		}
	}
	if !o.due(m) && len(rest) >= o.room {
		return nil, api.ErrFull
	}
	o.wait = append(rest, m)
	var told []api.Msg
	for {
		at := -1
		for i, w := range o.wait {
			if o.due(w) && (at < 0 || w.Site < o.wait[at].Site) {
				at = i
			}
		}
		if at < 0 {
			return told, api.OK
		}
		told = append(told, o.wait[at])
		o.clock[o.wait[at].Site] = o.wait[at].Seq
		o.wait = slices.Delete(o.wait, at, at+1)
	}
}

func (o *model) known() vec.Vec {
	k := slices.Clone(o.clock)
	for _, w := range o.wait {
		for i, n := range w.Know {
			k[i] = max(k[i], n)
		}
		k[w.Site] = max(k[w.Site], w.Seq)
	}
	return k
}

// random makes messages about the clock, so that many of them meet one another, and some may not be.
func (x *source) random(clock []int) api.Msg {
	sites := len(clock)
	if x.below(40) == 0 {
		sites += 1 - 2*x.below(2)
	}
	know := make([]int, max(1, sites))
	for i := range know {
		if i < len(clock) {
			know[i] = max(0, clock[i]-1+x.below(10)/4)
		}
	}
	site := x.below(len(know))
	m := msg(site, max(1, know[site]+x.below(4)), know...)
	m.Op.Epoch = x.below(8) / 7
	if x.below(40) == 0 {
		m.Know[x.below(len(know))] = []int{-1, most + 1}[x.below(2)]
	}
	return m
}

func TestByModel(t *testing.T) {
	x := source(1)
	for run := range 300 {
		sites, room := 1+x.below(16), []int{0, 1, 2, 3, 5, 10, 1000}[x.below(7)]
		h, o := mustNew(t, sites, room), &model{room: room, clock: make([]int, sites)}
		for step := range 300 {
			m := x.random(o.clock)
			l, e := h.Put(m)
			told, want := o.put(m)
			if e != want || !sameList(l, told) {
				t.Fatalf("P7.2: run %d, step %d: Put(%v): %v, %d, not %v, %d", run, step, m, l, e, told, want)
			}
			is(t, "P7.2: by the model", h, o.clock, o.known(), len(o.wait))
			if t.Failed() {
				t.Fatalf("run %d, step %d: Put(%v)", run, step, m)
			}
		}
	}
}

// history has messages as sites make them that hear of one another now and then.
func (x *source) history(sites, many int) []api.Msg {
	clocks := make([]vec.Vec, sites)
	for i := range clocks {
		clocks[i] = make(vec.Vec, sites)
	}
	var l []api.Msg
	for range many {
		site := x.below(sites)
		if x.below(2) == 0 {
			clocks[site], _ = clocks[site].Join(clocks[x.below(sites)])
		}
		l = append(l, msg(site, clocks[site][site]+1, clocks[site]...))
		clocks[site], _ = clocks[site].Tick(site)
	}
	return l
}

func (x *source) shuffle(l []api.Msg) []api.Msg {
	l = slices.Clone(l)
	for i := range l {
		j := i + x.below(len(l)-i)
		l[i], l[j] = l[j], l[i]
	}
	return l
}

// follows holds that what is told next is behind all that its site knew, and answers the clock with it.
func follows(t *testing.T, clock vec.Vec, m api.Msg) vec.Vec {
	t.Helper()
	if k, _ := vec.Vec(m.Know).Compare(clock); k != vec.Same && k != vec.Before {
		t.Errorf("P7.3: %v is told at %v", m, clock)
	}
	if clock.Covers(m.Site, m.Seq) {
		t.Errorf("P7.3: %v is told twice", m)
	}
	clock, _ = clock.Tick(m.Site)
	if clock[m.Site] != m.Seq {
		t.Errorf("P7.3: %v is told at %v", m, clock)
	}
	return clock
}

func TestHoweverTheyCome(t *testing.T) {
	x := source(2)
	for range 200 {
		sites := 1 + x.below(16)
		all := x.history(sites, 1+x.below(60))
		h := mustNew(t, sites, 1000)
		clock := make(vec.Vec, sites)
		var told []api.Msg
		for _, m := range x.shuffle(slices.Concat(all, all)) {
			l, _ := h.Put(m)
			for _, m := range l {
				clock = follows(t, clock, m)
			}
			told = append(told, l...)
			if !slices.Equal(h.Clock(), clock) {
				t.Fatalf("P7.3: what is told covers %v, the clock is %v", clock, h.Clock())
			}
		}
		if len(told) != len(all) || h.Waits() != 0 || !slices.Equal(h.Known(), clock) {
			t.Fatalf("P7.3: %d of %d are told, %d wait", len(told), len(all), h.Waits())
		}
		if !sameList(sorted(told), sorted(all)) {
			t.Fatalf("P7.3: told %v, not %v", told, all)
		}
	}
}

func sorted(l []api.Msg) []api.Msg {
	l = slices.Clone(l)
	slices.SortFunc(l, func(a, b api.Msg) int {
		if a.Site != b.Site {
			return a.Site - b.Site
		}
		return a.Seq - b.Seq
	})
	return l
}

func TestSameClockSameMessages(t *testing.T) {
	x := source(3)
	meetings := 0
	for range 100 {
		sites := 1 + x.below(3)
		all := x.history(sites, 12)
		seen := map[[3]int][]api.Msg{}
		for range 10 {
			h := mustNew(t, sites, 1000)
			var told []api.Msg
			for _, m := range x.shuffle(all) {
				l, e := h.Put(m)
				if e != api.OK {
					t.Fatalf("P7.2: Put(%v): %d", m, e)
				}
				told = append(told, l...)
				var at [3]int
				copy(at[:], h.Clock())
				if other, is := seen[at]; is {
					meetings++
					if !sameList(sorted(told), sorted(other)) {
						t.Fatalf("P7.3: at %v: %v and %v", at, told, other)
					}
				}
				seen[at] = slices.Clone(told)
			}
		}
	}
	if meetings < 1000 {
		t.Errorf("two had the same clock but %d times", meetings)
	}
}

// What is spoiled in one run must not be seen in what the other one, left alone, answers.
func TestMemory(t *testing.T) {
	spoil := func(l []int) {
		l = l[:cap(l)]
		for i := range l {
			l[i] = 9
		}
	}
	x := source(4)
	for range 50 {
		sites := 2 + x.below(4)
		all := x.history(sites, 40)
		h, left := mustNew(t, sites, 1000), mustNew(t, sites, 1000)
		for _, m := range x.shuffle(slices.Concat(all, all)) {
			want, e := left.Put(m)
			spare := append(slices.Clone(m.Know), 77, 78)
			given := m
			given.Know = spare[: sites : sites+1]
			got, f := h.Put(given)
			if e != f || !sameList(got, want) || !slices.Equal(spare, append(slices.Clone(m.Know), 77, 78)) {
				t.Fatalf("R5, R6: %v, %d, not %v, %d; handed in: %v", got, f, want, e, spare)
			}
			spoil(given.Know)
			for i := range got {
				spoil(got[i].Know)
				for _, behind := range got[i+1:] {
					if mesg.Check(behind) != api.OK {
						t.Fatalf("R5: two lists of one answer share memory: %v", behind)
					}
				}
			}
			clear(got[:cap(got)])
			spoil(h.Clock())
			spoil(h.Known())
			is(t, "R5, R6", h, left.Clock(), left.Known(), left.Waits())
			if t.Failed() {
				t.FailNow()
			}
		}
	}
}

func TestApart(t *testing.T) {
	a, b := mustNew(t, 2, 5), mustNew(t, 2, 5)
	put(t, "P7.2", a, msg(0, 1, 0, 0), api.OK, msg(0, 1, 0, 0))
	put(t, "P7.2", a, msg(1, 2, 0, 0), api.OK)
	is(t, "R6: another hold", b, vec.Vec{0, 0}, vec.Vec{0, 0}, 0)
}
