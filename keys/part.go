package keys

import "unicode/utf8"

const (
	escape   = 0x1b
	alone    = "\x1b" // a part that may be a key of its own
	ahead    = 2      // bytes of ESC [, ahead of the codes
	maxCodes = 4      // that wait
)

// part is the bytes of a key that is not whole. The byte behind it is read by a method of it.
type part string

// step reads a byte: the keys that are told by it, and what waits then.
type step func(b byte) ([]Key, state)

// state is a part, and the step that reads what comes behind it: a method value, so that the step has the part with it.
type state struct {
	part part
	next step
}

// read reads a byte; of the zero state, where nothing waits, it is the first one of a key.
func (s state) read(b byte) ([]Key, state) {
	if s.next == nil {
		s.next = s.part.first
	}
	return s.next(b)
}

func (p part) first(b byte) ([]Key, state) {
	switch {
	case b == escape:
		p = p.with(b)
		return nil, state{p, p.escaped}
	case b < 0x20:
		return whole(Ctrl, int(b)+96)
	case b < 0x7f:
		return whole(Rune, int(b))
	case b == 0x7f:
		return whole(Ctrl, 'h')
	case b >= 0xc2 && b <= 0xf4:
		p = p.with(b)
		return nil, state{p, p.inRune}
	}
	return whole(Bad, 0)
}

// escaped is behind ESC.
func (p part) escaped(b byte) ([]Key, state) {
	switch {
	case b == '[':
		p = p.with(b)
		return nil, state{p, p.coded}
	case b == 'O':
		p = p.with(b)
		return nil, state{p, p.lettered}
	case b >= 0x20 && b <= 0x7f:
		return whole(Meta, int(b))
	}
	return ended(Esc, b)
}

// coded is behind ESC [ and codes.
func (p part) coded(b byte) ([]Key, state) {
	if isCode(b) && len(p) < ahead+maxCodes {
		p = p.with(b)
		return nil, state{p, p.coded}
	}
	switch p[ahead:].with(b) {
	case "A":
		return whole(Up, 0)
	case "B":
		return whole(Down, 0)
	case "C":
		return whole(Right, 0)
	case "D":
		return whole(Left, 0)
	case "H", "1~":
		return whole(Home, 0)
	case "F", "4~":
		return whole(End, 0)
	case "3~":
		return whole(Del, 0)
	}
	return whole(Bad, 0)
}

// lettered is behind ESC O.
func (p part) lettered(b byte) ([]Key, state) {
	switch b {
	case 'H':
		return whole(Home, 0)
	case 'F':
		return whole(End, 0)
	}
	return whole(Bad, 0)
}

// inRune is behind the first byte of a rune, or more of them.
func (p part) inRune(b byte) ([]Key, state) {
	if b < 0x80 || b > 0xbf {
		return ended(Bad, b)
	}
	p = p.with(b)
	if len(p) < size(p[0]) {
		return nil, state{p, p.inRune}
	}
	// The library takes one byte alone, where the bytes are no rune.
	r, n := utf8.DecodeRuneInString(string(p))
	if n < len(p) || r <= 0x9f {
		return whole(Bad, 0)
	}
	return whole(Rune, int(r))
}

func (p part) with(b byte) part { return p + part([]byte{b}) }

// whole is one key, with nothing that waits behind it.
func whole(kind, r int) ([]Key, state) { return []Key{{Kind: kind, Rune: r}}, state{} }

// ended is a key that a byte ends which is not its own.
func ended(kind int, b byte) ([]Key, state) {
	l, next := state{}.read(b)
	return append([]Key{{Kind: kind}}, l...), next
}

func isCode(b byte) bool { return b >= '0' && b <= '9' || b == ';' }

// size is how many bytes a rune has, by its first one.
func size(b byte) int {
	switch {
	case b < 0xe0:
		return 2
	case b < 0xf0:
		return 3
	}
	return 4
}
