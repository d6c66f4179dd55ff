package edit

// gap is a line with room at one place: acts that stand side by side move no rune, however long the line is.
type gap struct {
	runes    []int
	from, to int // of the room
}

// open has room for as many runes as there may be acts that put one.
func open(l []int, acts int) *gap {
	g := gap{runes: make([]int, len(l)+acts), from: len(l), to: len(l) + acts}
	copy(g.runes, l)
	return &g
}

func (g *gap) do(a Act) bool {
	long := g.from + len(g.runes) - g.to
	switch {
	case a.Kind == Put && a.At >= 0 && a.At <= long:
		g.move(a.At)
		g.runes[g.from] = a.Rune
		g.from++
		return true
	case a.Kind == Cut && a.At >= 0 && a.At < long:
		g.move(a.At)
		g.to++
		return true
	}
	return false
}

// move puts the room ahead of the rune at a place.
func (g *gap) move(at int) {
	by := at - g.from
	if by < 0 {
		copy(g.runes[g.to+by:g.to], g.runes[at:g.from])
	} else {
		copy(g.runes[g.from:at], g.runes[g.to:g.to+by])
	}
	g.from, g.to = at, g.to+by
}

func (g *gap) close() []int { return append(g.runes[:g.from], g.runes[g.to:]...) }
