package layout

import (
	"duet/api"
	"duet/cells"
)

// place is that of a cell.
type place struct{ row, col int }

// places tells where runes are laid; of one that is not laid, where the next one is that is. (The last one is laid.)
func places(width int, runes []int) []place {
	var l []place
rows:
	for row := 0; ; row++ {
		at := place{row: row}
		for i := len(l); i < len(runes); i++ {
			size := cells.Width(runes[i])
			if size == 0 {
				continue
			}
			if at.col+size > width {
				continue rows
			}
			for len(l) <= i { // with those ahead that wait for a place
				l = append(l, at)
			}
			at.col += size
		}
		return l
	}
}

// sheet has as many rows as are asked for.
type sheet struct {
	width int
	rows  [][]api.Cell
}

func (s *sheet) row(n int) []api.Cell {
	for len(s.rows) <= n {
		s.rows = append(s.rows, make([]api.Cell, s.width))
	}
	return s.rows[n]
}

func (s *sheet) lay(r int, at place) {
	size := cells.Width(r)
	if size == 0 {
		return
	}
	row := s.row(at.row)
	row[at.col].Rune = r
	if size == 2 {
		row[at.col+1].Rune = right
	}
}

func (s *sheet) mark(at place) {
	row := s.row(at.row)
	row[at.col].Mark = true
	if next := at.col + 1; next < s.width && row[next].Rune == right {
		row[next].Mark = true
	}
}
