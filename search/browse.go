package search

import "slices"

// Browse goes through lines, with one of its own at the end.
type Browse struct {
	lines []string
	own   string
	at    int // as many as there are lines: at own
}

func Start(lines []string, own string) *Browse {
	return &Browse{lines: slices.Clone(lines), own: own, at: len(lines)}
}

func (b *Browse) Up() bool {
	if b == nil || b.at == 0 {
		return false
	}
	b.at--
	return true
}

func (b *Browse) Down() bool {
	if b == nil || b.at == len(b.lines) {
		return false
	}
	b.at++
	return true
}

func (b *Browse) Edit(s string) {
	if b != nil {
		*b.here() = s
	}
}

func (b *Browse) Line() string {
	if b == nil {
		return ""
	}
	return *b.here()
}

func (b *Browse) here() *string {
	if b.at == len(b.lines) {
		return &b.own
	}
	return &b.lines[b.at]
}
