package mesg

import "duet/api"

func clock(n int) bool { return n >= 0 && n <= api.MaxClock }

func headMayBe(m api.Msg) bool {
	sites := len(m.Know)
	if sites < 1 || sites > api.MaxSites {
		return false
	}
	for _, n := range m.Know {
		if !clock(n) {
			return false
		}
	}
	if m.Site < 0 || m.Site >= sites {
		return false
	}
	return m.Seq >= 1 && clock(m.Seq) && m.Know[m.Site] == m.Seq-1
}

func opMayBe(m api.Msg) bool {
	op, sites := m.Op, len(m.Know)
	if !clock(op.Epoch) {
		return false
	}
	own := idMayBe(op.Id, sites) && op.Id.Site == m.Site
	ref := idMayBe(op.Ref, sites)
	switch op.Kind {
	case api.Insert:
		behind := isZero(op.Ref) || ref && op.Ref.Time < op.Id.Time
		return own && behind && Rune(op.Rune)
	case api.Delete, api.Undo, api.Redo, api.Ack, api.Withdraw:
		return ref && isZero(op.Id) && op.Rune == 0
	case api.Caret:
		return (isZero(op.Ref) || ref) && isZero(op.Id) && op.Rune == 0
	case api.Propose:
		return own && isZero(op.Ref) && op.Rune == 0
	}
	return false
}

func idMayBe(id api.Id, sites int) bool {
	return id.Time >= 1 && clock(id.Time) && id.Site >= 0 && id.Site < sites
}

func isZero(id api.Id) bool { return id == api.Id{} }
