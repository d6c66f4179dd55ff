package past

import (
	"math"
	"slices"
	"testing"

	"duet/api"
)

func id(time, site int) api.Id { return api.Id{Time: time, Site: site} }

// moves is site's seq-th message, of so many sites: its caret is in that epoch, behind ref.
func moves(sites, site, seq, epoch int, ref api.Id) api.Msg {
	m := api.Msg{Site: site, Seq: seq, Know: make([]int, sites), Op: api.Op{Kind: api.Caret, Epoch: epoch, Ref: ref}}
	m.Know[site] = seq - 1
	return m
}

func nowhere(t *testing.T, sites int) *Where {
	t.Helper()
	w, e := Nowhere(sites)
	if w == nil || e != api.OK {
		t.Fatalf("P16.3: Nowhere(%d): %v, %d", sites, w, e)
	}
	return w
}

// spot is where a site's caret is.
type spot struct {
	site  int
	epoch int
	ref   api.Id
}

func epochs() []int { return []int{0, 1, 2, 3, most, -1, most + 1, math.MinInt, math.MaxInt} }

func spots(w *Where) []spot {
	var l []spot
	for site := -1; site <= api.MaxSites; site++ {
		for _, epoch := range epochs() {
			if x, is := w.At(site, epoch); is {
				l = append(l, spot{site, epoch, x})
			}
		}
	}
	return l
}

// stand also holds Sites against At, and looks for carets where there are none.
func stand(t *testing.T, what string, w *Where, want ...spot) {
	t.Helper()
	if l := spots(w); !slices.Equal(l, want) {
		t.Fatalf("%s: %v, not %v", what, l, want)
	}
	for _, epoch := range epochs() {
		var sites []int
		for _, s := range want {
			if s.epoch == epoch {
				sites = append(sites, s.site)
			}
		}
		if l := w.Sites(epoch); !slices.Equal(l, sites) {
			t.Fatalf("%s: Sites(%d): %v, not %v", what, epoch, l, sites)
		}
	}
	for _, site := range []int{-1, -2, api.MaxSites, 100, math.MinInt, math.MaxInt} {
		for _, epoch := range epochs() {
			if x, is := w.At(site, epoch); x != (api.Id{}) || is {
				t.Fatalf("%s: At(%d, %d): %v, %v", what, site, epoch, x, is)
			}
		}
	}
	for site := range api.MaxSites {
		for _, epoch := range epochs() {
			if x, is := w.At(site, epoch); !is && x != (api.Id{}) {
				t.Fatalf("%s, R3: At(%d, %d): %v", what, site, epoch, x)
			}
		}
	}
}

func move(t *testing.T, what string, w *Where, m api.Msg, want api.Errno) {
	t.Helper()
	before := spots(w)
	if e := w.Move(m); e != want {
		t.Fatalf("%s: Move(%v): %d, not %d", what, m, e, want)
	}
	if after := spots(w); want != api.OK && !slices.Equal(after, before) {
		t.Fatalf("%s, R3: Move(%v) made %v of %v", what, m, after, before)
	}
}

func TestNowhere(t *testing.T) {
	for _, sites := range []int{0, -1, 17, most, math.MinInt, math.MaxInt} {
		if w, e := Nowhere(sites); w != nil || e != api.ErrArg {
			t.Errorf("P16.3: Nowhere(%d): %v, %d", sites, w, e)
		}
	}
	for sites := 1; sites <= api.MaxSites; sites++ {
		w := nowhere(t, sites)
		stand(t, "P16.3: nobody is anywhere", w)
		move(t, "P16.3", w, moves(sites, sites-1, 1, 0, api.Id{}), api.OK)
		stand(t, "P16.3", w, spot{sites - 1, 0, api.Id{}})
		stand(t, "P16.3: another one", nowhere(t, sites))
	}
}

func TestNilWhere(t *testing.T) {
	for what, w := range map[string]*Where{"nil": nil, "one that Nowhere did not make": {}} {
		what = "P16.3, R1: " + what
		move(t, what, w, moves(1, 0, 1, 0, api.Id{}), api.ErrArg)
		move(t, what, w, moves(16, 15, 1, 0, id(1, 0)), api.ErrArg)
		move(t, what, w, api.Msg{}, api.ErrArg)
		stand(t, what, w)
	}
}

func TestMove(t *testing.T) {
	w := nowhere(t, 3)
	move(t, "P16.3", w, moves(3, 1, 5, 2, id(9, 0)), api.OK)
	stand(t, "P16.3", w, spot{1, 2, id(9, 0)})
	move(t, "P16.3: the same again", w, moves(3, 1, 5, 2, id(9, 0)), api.ErrOld)
	move(t, "P16.3: of that Seq", w, moves(3, 1, 5, 3, id(8, 0)), api.ErrOld)
	for _, seq := range []int{1, 4} {
		move(t, "P16.3: of a lower Seq", w, moves(3, 1, seq, 3, id(8, 0)), api.ErrOld)
	}
	stand(t, "P16.3", w, spot{1, 2, id(9, 0)})
	move(t, "P16.3: another site has Seqs of its own", w, moves(3, 0, 1, 2, api.Id{}), api.OK)
	stand(t, "P16.3: rising", w, spot{0, 2, api.Id{}}, spot{1, 2, id(9, 0)})
	move(t, "P16.3: a higher Seq", w, moves(3, 1, 6, 2, id(1, 2)), api.OK)
	stand(t, "P16.3", w, spot{0, 2, api.Id{}}, spot{1, 2, id(1, 2)})
	move(t, "P16.3: in an epoch below", w, moves(3, 1, 7, 1, id(1, 2)), api.OK)
	stand(t, "P16.3: it is nowhere else", w, spot{0, 2, api.Id{}}, spot{1, 1, id(1, 2)})
	move(t, "P16.3: behind the begin", w, moves(3, 1, 8, 0, api.Id{}), api.OK)
	stand(t, "P16.3", w, spot{0, 2, api.Id{}}, spot{1, 0, api.Id{}})
	move(t, "P16.3: the last ones there are", w, moves(3, 2, most, most, id(most, 2)), api.OK)
	move(t, "P16.3: the last one again", w, moves(3, 2, most, 0, id(1, 2)), api.ErrOld)
	stand(t, "P16.3", w, spot{0, 2, api.Id{}}, spot{1, 0, api.Id{}}, spot{2, most, id(most, 2)})
}

func TestSixteenCarets(t *testing.T) {
	w := nowhere(t, 16)
	var want []spot
	for site := range 16 {
		move(t, "P16.3: 16 sites", w, moves(16, 15-site, 1, 3, id(site+1, 0)), api.OK)
		want = append(want, spot{site, 3, id(16-site, 0)})
	}
	stand(t, "P16.3: 16 sites, rising", w, want...)
}

func TestWrongMoves(t *testing.T) {
	w := nowhere(t, 2)
	move(t, "P16.3", w, moves(2, 1, 4, 2, id(1, 0)), api.OK)
	for what, spoil := range map[string]func(m *api.Msg){
		"no site":              func(m *api.Msg) { m.Site = 2 },
		"site below 0":         func(m *api.Msg) { m.Site = math.MinInt },
		"no seq":               func(m *api.Msg) { m.Seq, m.Know[1] = 0, -1 },
		"seq beyond":           func(m *api.Msg) { m.Seq, m.Know[1] = most+1, most },
		"seq and know":         func(m *api.Msg) { m.Know[1] = 77 },
		"knows less than none": func(m *api.Msg) { m.Know[0] = -1 },
		"knows of one site":    func(m *api.Msg) { m.Site, m.Know = 0, []int{m.Seq - 1} },
		"knows of three sites": func(m *api.Msg) { m.Know = append(m.Know, 0) },
		"knows of no site":     func(m *api.Msg) { m.Know = nil },
		"epoch below 0":        func(m *api.Msg) { m.Op.Epoch = -1 },
		"epoch beyond":         func(m *api.Msg) { m.Op.Epoch = most + 1 },
		"an Id":                func(m *api.Msg) { m.Op.Id = id(1, 1) },
		"a rune":               func(m *api.Msg) { m.Op.Rune = 'a' },
		"of no site":           func(m *api.Msg) { m.Op.Ref.Site = 2 },
		"of no time":           func(m *api.Msg) { m.Op.Ref.Time, m.Op.Ref.Site = 0, 1 },
		"no kind":              func(m *api.Msg) { m.Op.Kind = 0 },
		"kind 9":               func(m *api.Msg) { m.Op.Kind = 9 },
		"an Insert":            func(m *api.Msg) { m.Op.Kind, m.Op.Id, m.Op.Ref, m.Op.Rune = api.Insert, id(2, 1), api.Id{}, 'a' },
		"a Delete":             func(m *api.Msg) { m.Op.Kind = api.Delete },
		"an Undo":              func(m *api.Msg) { m.Op.Kind = api.Undo },
		"a Redo":               func(m *api.Msg) { m.Op.Kind = api.Redo },
		"a Propose":            func(m *api.Msg) { m.Op.Kind, m.Op.Id, m.Op.Ref = api.Propose, id(2, 1), api.Id{} },
		"an Ack":               func(m *api.Msg) { m.Op.Kind = api.Ack },
		"a Withdraw":           func(m *api.Msg) { m.Op.Kind = api.Withdraw },
	} {
		for _, seq := range []int{3, 4, 5} {
			m := moves(2, 1, seq, 2, id(1, 0))
			spoil(&m)
			move(t, "P16.3, R2: "+what, w, m, api.ErrArg)
		}
	}
	stand(t, "P16.3", w, spot{1, 2, id(1, 0)})
}

// The last caret of each site counts, however they come.
func TestLastCounts(t *testing.T) {
	r := source(4)
	for range 300 {
		sites := 1 + r.below(4)
		var all []api.Msg
		last := make([]*spot, sites)
		for site := range sites {
			for seq := 1; seq < 1+r.below(6); seq++ {
				all = append(all, moves(sites, site, seq, r.below(4), id(1+r.below(9), site)))
				m := all[len(all)-1]
				last[site] = &spot{site, m.Op.Epoch, m.Op.Ref}
			}
		}
		var want []spot
		for _, s := range last {
			if s != nil {
				want = append(want, *s)
			}
		}
		for range 3 {
			w := nowhere(t, sites)
			coming := append(slices.Clone(all), all...)
			for len(coming) > 0 {
				at := r.below(len(coming))
				if e := w.Move(coming[at]); e != api.OK && e != api.ErrOld {
					t.Fatalf("P16.3: Move(%v): %d", coming[at], e)
				}
				coming = slices.Delete(coming, at, at+1)
			}
			stand(t, "P16.4", w, want...)
		}
	}
}

func TestMemoryOfWhere(t *testing.T) {
	w := nowhere(t, 2)
	m := moves(8, 0, 1, 0, id(1, 0))
	room := m.Know
	m.Know = room[:2]
	move(t, "R5", w, m, api.OK)
	if slices.Max(room) != 0 {
		t.Errorf("R5: Move changed what it was given: %v", room)
	}
	room[0], room[1] = 98, 99
	for range 2 {
		l := w.Sites(0)
		l = l[:cap(l)]
		for i := range l {
			l[i] = 97
		}
		stand(t, "R5: what is answered is new", w, spot{0, 0, id(1, 0)})
	}
}
