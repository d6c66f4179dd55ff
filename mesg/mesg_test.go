package mesg

import (
	"bytes"
	"encoding/binary"
	"math"
	"reflect"
	"slices"
	"strings"
	"testing"
	"unsafe"

	"duet/api"
	"duet/pack"
)

const most = 1<<32 - 1

func id(time, site int) api.Id { return api.Id{Time: time, Site: site} }

// source makes numbers that are the same in each run.
type source64 uint64

func (x *source64) below(n int) int {
	*x = *x*6364136223846793005 + 1442695040888963407
	return int(*x>>33) % n
}

func (x *source64) one(of ...int) int { return of[x.below(len(of))] }

// plain writes numbers by the library's own means.
func plain(numbers ...int) string {
	var b []byte
	for _, n := range numbers {
		if n < 248 {
			b = append(b, byte(n))
			continue
		}
		all := binary.BigEndian.AppendUint32(nil, uint32(n))
		all = bytes.TrimLeft(all, "\x00")
		b = append(append(b, byte(247+len(all))), all...)
	}
	return string(b)
}

// written has the numbers of a message in the document's order.
func written(m api.Msg) []int {
	l := append([]int{m.Site, m.Seq, len(m.Know)}, m.Know...)
	o := m.Op
	l = append(l, o.Kind, o.Epoch)
	switch o.Kind {
	case 1:
		return append(l, o.Id.Time, o.Id.Site, o.Ref.Time, o.Ref.Site, o.Rune)
	case 6:
		return append(l, o.Id.Time, o.Id.Site)
	}
	return append(l, o.Ref.Time, o.Ref.Site)
}

func ofTwo(o api.Op) api.Msg { return api.Msg{Site: 1, Seq: 3, Know: []int{5, 2}, Op: o} }

// ops has one of each kind that may be in a message of ofTwo.
func ops() []api.Op {
	return []api.Op{
		{Kind: 1, Epoch: 4, Id: id(300, 1), Ref: id(7, 0), Rune: 'a'},
		{Kind: 2, Epoch: 1, Ref: id(7, 0)},
		{Kind: 3, Epoch: 2, Ref: id(8, 1)},
		{Kind: 4, Epoch: 3, Ref: id(9, 0)},
		{Kind: 5, Epoch: 5, Ref: id(10, 1)},
		{Kind: 6, Epoch: 9, Id: id(11, 1)},
		{Kind: 7, Epoch: 7, Ref: id(12, 0)},
		{Kind: 8, Epoch: 8, Ref: id(13, 1)},
	}
}

// random makes a message that may be.
func (x *source64) random() api.Msg {
	n := 1 + x.below(16)
	know := make([]int, n)
	for i := range know {
		know[i] = x.one(0, 1, 2, 247, 248, 255, 256, 65535, 65536, 1<<24-1, 1<<24, most-1, most)
	}
	m := api.Msg{Site: x.below(n), Know: know}
	m.Seq = x.one(1, 2, 3, 248, 249, 70000, most-1, most)
	know[m.Site] = m.Seq - 1
	o := api.Op{Kind: 1 + x.below(8), Epoch: x.one(0, 1, 300, most)}
	ref := id(x.one(1, 2, 300, 1<<24, most-1), x.below(n))
	own := id(ref.Time+x.one(1, most-ref.Time), m.Site)
	switch o.Kind {
	case 1:
		o.Id, o.Rune = own, x.one(32, 'a', 126, 0xa0, 0xd7ff, 0xe000, 0x10ffff)
		if x.below(2) == 0 {
			o.Ref = ref
		}
	case 6:
		o.Id = own
	case 5:
		if x.below(2) == 0 {
			o.Ref = ref
		}
	default:
		o.Ref = ref
	}
	m.Op = o
	return m
}

// may holds that a message may be, or may not, in each call that asks it.
func may(t *testing.T, m api.Msg, want bool) {
	t.Helper()
	if e := Check(m); (e == api.OK) != want || e != api.OK && e != api.ErrArg {
		t.Errorf("P4.1: Check(%v): %d", m, e)
	}
	s, e := Encode(m)
	if want {
		if e != api.OK || s != plain(written(m)...) {
			t.Errorf("P4.2: Encode(%v): %x, %d", m, s, e)
		}
		back, e := Decode(s)
		if e != api.OK || !reflect.DeepEqual(back, m) {
			t.Errorf("P4.4: Decode(%x): %v, %d", s, back, e)
		}
		return
	}
	if s != "" || e != api.ErrArg {
		t.Errorf("P4.2, R3: Encode(%v): %x, %d", m, s, e)
	}
	if !hasBytes(m) {
		return
	}
	if back, e := Decode(plain(written(m)...)); e != api.ErrForm || !reflect.DeepEqual(back, api.Msg{}) {
		t.Errorf("P4.3, R3: Decode of %v: %v, %d", m, back, e)
	}
}

// hasBytes tells whether a message that may not be can be put into bytes with nothing left out.
func hasBytes(m api.Msg) bool {
	for _, n := range written(m) {
		if n < 0 || n > most {
			return false
		}
	}
	o := m.Op
	switch o.Kind {
	case 1:
		return len(m.Know) <= 1000
	case 6:
		return o.Ref == id(0, 0) && o.Rune == 0
	}
	return o.Id == id(0, 0) && o.Rune == 0 && len(m.Know) <= 1000
}

func TestRune(t *testing.T) {
	for n := -300; n < 0x110400; n++ {
		// 32 is a number as people write them: the shared tests hold a blank for one that may stand.
		want := n >= 0x20 && n < 0x7f || n > 0x9f && n < 0xd800 || n > 0xdfff && n < 0x110000
		if Rune(n) != want {
			t.Errorf("P4.1: Rune(%x): %v", n, !want)
		}
	}
	for _, n := range []int{math.MinInt, math.MaxInt, 1<<32 + 'a', -1 << 32, 1 << 31, most} {
		if Rune(n) {
			t.Errorf("P4.1: Rune(%d)", n)
		}
	}
}

func TestExamples(t *testing.T) {
	m := api.Msg{Seq: 1, Know: []int{0}, Op: api.Op{Kind: api.Caret}}
	if s, e := Encode(m); s != "\x00\x01\x01\x00\x05\x00\x00\x00" || e != api.OK {
		t.Errorf("P4.2: %x, %d", s, e)
	}
	may(t, m, true)
	insert := ofTwo(ops()[0])
	if s, e := Encode(insert); s != "\x01\x03\x02\x05\x02\x01\x04\xf9\x01\x2c\x01\x07\x00a" || e != api.OK {
		t.Errorf("P4.2: %x, %d", s, e)
	}
	for _, o := range ops() {
		may(t, ofTwo(o), true)
	}
}

func TestHead(t *testing.T) {
	caret := api.Op{Kind: api.Caret}
	for n := range 40 {
		may(t, api.Msg{Seq: 1, Know: make([]int, n), Op: caret}, n >= 1 && n <= 16)
	}
	may(t, api.Msg{Seq: 1, Op: caret}, false)
	may(t, api.Msg{Seq: 1, Know: make([]int, 1000), Op: caret}, false)
	may(t, api.Msg{Seq: 1, Know: make([]int, 100000), Op: caret}, false)
	for _, n := range []int{1, 2, 3, 15, 16} {
		for _, site := range []int{math.MinInt, -1, 0, 1, 2, 3, 14, 15, 16, 17, math.MaxInt} {
			may(t, api.Msg{Site: site, Seq: 1, Know: make([]int, n), Op: caret}, site >= 0 && site < n)
		}
	}
	for _, seq := range []int{math.MinInt, -1, 0, 1, 2, 300, most - 1, most, most + 1, math.MaxInt} {
		for _, less := range []int{seq - 2, seq - 1, seq, seq + 1, 0} {
			for site := range 3 {
				know := []int{7, 7, 7}
				know[site] = less
				may(t, api.Msg{Site: site, Seq: seq, Know: know, Op: caret}, seq >= 1 && seq <= most && less == seq-1)
			}
		}
	}
	for _, n := range []int{math.MinInt, -1, 0, 1, most, most + 1, math.MaxInt} {
		for at := range 4 {
			know := []int{0, 0, 0, 0}
			know[at] = n
			may(t, api.Msg{Site: (at + 1) % 4, Seq: 1, Know: know, Op: caret}, n >= 0 && n <= most)
		}
	}
}

func TestEpochAndKind(t *testing.T) {
	for _, o := range ops() {
		for _, n := range []int{math.MinInt, -1, 0, 1, most - 1, most, most + 1, math.MaxInt} {
			o.Epoch = n
			may(t, ofTwo(o), n >= 0 && n <= most)
		}
	}
	for _, kind := range []int{math.MinInt, -1, 0, 9, 10, 247, 248, 257, most, most + 1, math.MaxInt} {
		for _, o := range ops() {
			o.Kind = kind
			may(t, ofTwo(o), false)
		}
	}
	may(t, ofTwo(api.Op{}), false)
}

// Each kind with each of these Ids, Refs and Runes: what the document's words let be.
func TestOps(t *testing.T) {
	ids := []api.Id{{}, id(1, 0), id(1, 1), id(2, 0), id(2, 1), id(most, 0), id(most, 1), id(most+1, 1), id(0, 1), id(-1, 0), id(-1, 1), id(2, 2), id(2, -1), id(math.MaxInt, 0), id(math.MinInt, 1)}
	names := func(i api.Id) bool { return i.Time >= 1 && i.Time <= most && (i.Site == 0 || i.Site == 1) }
	zero := id(0, 0)
	for kind := 1; kind <= 8; kind++ {
		for _, one := range ids {
			for _, ref := range ids {
				for _, r := range []int{0, 1, 31, 32, 'a', 127, 0xd800, 0x10ffff, 0x110000, -1} {
					want := r == 0
					switch kind {
					case 1:
						want = Rune(r) && names(one) && one.Site == 1 && (ref == zero || names(ref) && ref.Time < one.Time)
					case 5:
						want = want && one == zero && (ref == zero || names(ref))
					case 6:
						want = want && names(one) && one.Site == 1 && ref == zero
					default:
						want = want && one == zero && names(ref)
					}
					may(t, ofTwo(api.Op{Kind: kind, Id: one, Ref: ref, Rune: r}), want)
				}
			}
		}
	}
}

// An Id's site is one of those that the message knows of, however many these are.
func TestIdsAmongSites(t *testing.T) {
	for n := 1; n <= 16; n++ {
		for site := range 18 {
			m := api.Msg{Site: n - 1, Seq: 1, Know: make([]int, n), Op: api.Op{Kind: api.Delete, Ref: id(1, site)}}
			may(t, m, site < n)
			m.Op = api.Op{Kind: api.Insert, Id: id(2, site), Rune: 'a'}
			may(t, m, site == n-1)
			m.Op = api.Op{Kind: api.Insert, Id: id(2, n-1), Ref: id(1, site), Rune: 'a'}
			may(t, m, site < n)
			m.Op = api.Op{Kind: api.Propose, Id: id(2, site)}
			may(t, m, site == n-1)
			m.Op = api.Op{Kind: api.Caret, Ref: id(1, site)}
			may(t, m, site < n)
		}
	}
}

func TestWrittenIsRead(t *testing.T) {
	x := source64(1)
	for range 5000 {
		may(t, x.random(), true)
	}
}

// slow reads by a list of what is still awaited, with no panic.
func slow(s string) ([]int, api.Errno) {
	var l []int
	awaited := 3
	for len(l) < awaited {
		n, rest, e := pack.Take(s)
		if e != api.OK {
			return nil, e
		}
		l, s = append(l, n), rest
		switch at := len(l) - 1; {
		case at == 2 && n > 1000:
			return nil, api.ErrForm
		case at == 2:
			awaited = 3 + n + 1
		case at > 2 && at == 3+l[2] && (n < 1 || n > 8):
			return nil, api.ErrForm
		case at > 2 && at == 3+l[2]:
			awaited += []int{0, 6, 3, 3, 3, 3, 3, 3, 3}[n]
		}
	}
	if s != "" {
		return nil, api.ErrForm
	}
	return l, api.OK
}

// whole puts a message together of the numbers that slow has read.
func whole(l []int) api.Msg {
	n := l[2]
	m := api.Msg{Site: l[0], Seq: l[1], Know: slices.Clone(l[3 : 3+n])}
	l = l[3+n:]
	m.Op = api.Op{Kind: l[0], Epoch: l[1]}
	switch m.Op.Kind {
	case 1:
		m.Op.Id, m.Op.Ref, m.Op.Rune = id(l[2], l[3]), id(l[4], l[5]), l[6]
	case 6:
		m.Op.Id = id(l[2], l[3])
	default:
		m.Op.Ref = id(l[2], l[3])
	}
	return m
}

// decodes holds Decode against slow.
func decodes(t *testing.T, s string) api.Errno {
	t.Helper()
	var want api.Msg
	l, e := slow(s)
	if e == api.OK {
		want = whole(l)
		if Check(want) != api.OK {
			want, e = api.Msg{}, api.ErrForm
		}
	}
	m, got := Decode(s)
	if got != e || !reflect.DeepEqual(m, want) {
		t.Errorf("P4.3: Decode(%x): %v, %d; not %v, %d", s, m, got, want, e)
	}
	if got == api.OK {
		if u, e := Encode(m); u != s || e != api.OK {
			t.Errorf("P4.4: %x is read, %x is written, %d", s, u, e)
		}
	}
	return got
}

func TestDecodeCutAndLonger(t *testing.T) {
	x := source64(2)
	for i := range 300 {
		m := x.random()
		if i < 8 {
			m = ofTwo(ops()[i])
		}
		s := plain(written(m)...)
		if e := decodes(t, s); e != api.OK {
			t.Errorf("P4.3: %x: %d", s, e)
		}
		for n := range len(s) {
			if e := decodes(t, s[:n]); e != api.ErrCut {
				t.Errorf("P4.3: %x, cut: %d", s[:n], e)
			}
		}
		for _, more := range []string{"\x00", "x", "\xff", "\xfc", "\xf8", s, strings.Repeat("x", 5000)} {
			if e := decodes(t, s+more); e != api.ErrForm {
				t.Errorf("P4.3: %x and more: %d", s, e)
			}
		}
	}
}

func TestDecodeTurned(t *testing.T) {
	for _, o := range ops() {
		s := plain(written(ofTwo(o))...)
		for at := range len(s) {
			for b := range 256 {
				turned := []byte(s)
				turned[at] = byte(b)
				decodes(t, string(turned))
				decodes(t, s[:at]+string([]byte{byte(b)})+s[at:])
				decodes(t, string(turned[:at+1]))
			}
		}
	}
	x := source64(3)
	read := 0
	for range 20000 {
		b := []byte(plain(written(x.random())...))
		for range 1 + x.below(3) {
			b[x.below(len(b))] = byte(x.one(0, 1, 2, 5, 6, 16, 17, 32, 247, 248, 249, 251, 252, 255))
		}
		if decodes(t, string(b)) == api.OK {
			read++
		}
	}
	if read == 0 {
		t.Errorf("P4.4: nothing that was turned may be: this test is too weak")
	}
}

// Which error it is where several apply.
func TestDecodeFirstError(t *testing.T) {
	for s, want := range map[string]api.Errno{
		"": api.ErrCut, "\x00": api.ErrCut, "\x00\x01": api.ErrCut, "\x00\x01\x01": api.ErrCut, "\x00\x01\x01\x00": api.ErrCut, "\x00\x01\x01\x00\x05": api.ErrCut,
		"\xfc": api.ErrForm, "\x00\xfc": api.ErrForm, "\x00\x01\xfc": api.ErrForm, "\x00\x01\x01\xfc": api.ErrForm, "\x00\x01\x01\x00\xfc": api.ErrForm, "\x00\x01\x01\x00\x05\xfc": api.ErrForm,
		"\x00\x01\x01\x00\x00":                  api.ErrForm, // a kind that is none, ahead of what is missing
		"\x00\x01\x01\x00\x09":                  api.ErrForm,
		"\x00\x01\x01\x00\xf8\xf8":              api.ErrForm,
		"\x00\x01\x01\x00\xf8":                  api.ErrCut, // a kind that cannot be read
		"\x00\x01\x01\x00\xf8\x05":              api.ErrForm,
		"\x09\x00\x01\x07\x05\x00\x00":          api.ErrCut,  // it may not be, but it is cut first
		"\x09\x00\x01\x07\x05\x00\x00\x00":      api.ErrForm, // it may not be
		"\x00\x01\x01\x00\x05\x00\x00\x00\x00":  api.ErrForm,
		"\x00\x01\x00\x05\x00\x00\x00":          api.ErrForm, // it knows of none
		"\x00\x01\x00\x05\x00\x00":              api.ErrCut,
		"\x00\x01\xf9\x03\xe9":                  api.ErrForm, // it knows of 1001
		"\x00\x01\xf9\x03\xe8":                  api.ErrCut,  // of 1000, and these are cut
		"\x00\x01\x11":                          api.ErrCut,
		"\x00\x01\x01\x00\x01\x00\x01\x00\x00":  api.ErrCut,
		"\x00\x01\x01\x00\x05\x00\xf8\x07\x00":  api.ErrForm, // a number that is written otherwise
		"\x00\x01\x01\x00\x05\x00\xf9\x00\xff0": api.ErrForm,
	} {
		if e := decodes(t, s); e != want {
			t.Errorf("P4.3: Decode(%x): %d, not %d", s, e, want)
		}
	}
}

func TestMemory(t *testing.T) {
	know := []int{5, 2, 99}[:2]
	m := ofTwo(ops()[0])
	m.Know = know
	one, _ := Encode(m)
	if !slices.Equal(know[:3], []int{5, 2, 99}) || Check(m) != api.OK {
		t.Errorf("R5: what was handed in is changed: %v", know[:3])
	}
	know[0] = 6
	if two, _ := Encode(m); two == one {
		t.Errorf("R6: an answer hangs on an earlier call: %x", two)
	}
	text := []byte(one)
	s := unsafe.String(&text[0], len(text))
	a, _ := Decode(s)
	b, _ := Decode(s)
	if string(text) != one {
		t.Errorf("R5: what was handed in is changed: %x", text)
	}
	all := a.Know[:cap(a.Know)]
	for i := range all {
		all[i] = 77
	}
	clear(text)
	if !slices.Equal(b.Know, []int{5, 2}) {
		t.Errorf("R5: two answers share memory: %v", b.Know)
	}
	if c, e := Decode(one); e != api.OK || !slices.Equal(c.Know, []int{5, 2}) {
		t.Errorf("R6: %v, %d", c, e)
	}
}
