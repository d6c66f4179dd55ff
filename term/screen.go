package term

import (
	"duet/api"
	"duet/cells"
)

const right = -1 // the Rune of a wide rune's right half

func (t *Term) width() int { return len(t.rows[0]) }

func (t *Term) addRow(width int) { t.rows = append(t.rows, make([]api.Cell, width)) }

// cut takes off the rows below the cursor's. Without their spare room: what is made there later is not where they were.
func (t *Term) cut() { t.rows = t.rows[: t.row+1 : t.row+1] }

// down goes to the next row; of the last one that may be, to itself.
func (t *Term) down() {
	t.row = min(t.row+1, maxRows-1)
	if t.row == len(t.rows) {
		t.addRow(t.width())
	}
}

func (t *Term) put(r int) {
	size := cells.Width(r)
	if size == 0 {
		return
	}
	if t.col+size > t.width() {
		t.col = 0
		t.down()
	}
	t.wipe(t.col + size)
	row := t.rows[t.row]
	row[t.col].Rune = r
	if size == 2 {
		row[t.col+1].Rune = right
	}
	t.col += size
}

// wipe wipes the cells from the cursor on, to an end.
func (t *Term) wipe(end int) {
	row := t.rows[t.row]
	for i := t.col; i < end; i++ {
		if row[i].Rune == right {
			row[i-1] = api.Cell{}
		}
		if next := i + 1; next < len(row) && row[next].Rune == right {
			row[next] = api.Cell{}
		}
		row[i] = api.Cell{Mark: t.marks}
	}
}
