package past

import (
	"duet/api"
	"duet/mesg"
)

// caret is where a site is, by its message of that Seq; no Seq is 0: that one stands for none.
type caret struct {
	seq   int
	epoch int
	ref   api.Id
}

// Where knows where everybody's caret is.
type Where struct {
	sites  int
	carets [api.MaxSites]caret // by sites
}

func Nowhere(sites int) (*Where, api.Errno) {
	if sites < 1 || sites > api.MaxSites {
		return nil, api.ErrArg
	}
	return &Where{sites: sites}, api.OK
}

func (w *Where) Move(m api.Msg) api.Errno {
	if w == nil || mesg.Check(m) != api.OK || len(m.Know) != w.sites || m.Op.Kind != api.Caret {
		return api.ErrArg
	}
	if w.carets[m.Site].seq >= m.Seq {
		return api.ErrOld
	}
	w.carets[m.Site] = caret{seq: m.Seq, epoch: m.Op.Epoch, ref: m.Op.Ref}
	return api.OK
}

func (w *Where) At(site int, epoch int) (api.Id, bool) {
	if w == nil || site < 0 || site >= len(w.carets) || !w.carets[site].isIn(epoch) {
		return api.Id{}, false
	}
	return w.carets[site].ref, true
}

func (w *Where) Sites(epoch int) []int {
	if w == nil {
		return nil
	}
	var sites []int
	for site, c := range w.carets {
		if c.isIn(epoch) {
			sites = append(sites, site)
		}
	}
	return sites
}

func (c caret) isIn(epoch int) bool { return c.seq != 0 && c.epoch == epoch }
