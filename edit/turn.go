package edit

import (
	"duet/api"
	"duet/keys"
	"duet/mesg"
)

// turn is what one key does to a state. The line stays as it was: what becomes of it the acts say.
type turn struct {
	line  []int
	at    int
	long  int // the line, behind the acts
	kill  []int
	typed int // the key's rune
	acts  []Act
}

// doings is what keys do, by their names.
func doings() map[keys.Key]func(*turn) {
	return map[keys.Key]func(*turn){
		{Kind: keys.Rune}:            (*turn).typeRune,
		{Kind: keys.Home}:            (*turn).toBegin,
		{Kind: keys.Ctrl, Rune: 'a'}: (*turn).toBegin,
		{Kind: keys.End}:             (*turn).toEnd,
		{Kind: keys.Ctrl, Rune: 'e'}: (*turn).toEnd,
		{Kind: keys.Left}:            (*turn).oneBack,
		{Kind: keys.Ctrl, Rune: 'b'}: (*turn).oneBack,
		{Kind: keys.Right}:           (*turn).oneOn,
		{Kind: keys.Ctrl, Rune: 'f'}: (*turn).oneOn,
		{Kind: keys.Meta, Rune: 'b'}: (*turn).wordBack,
		{Kind: keys.Meta, Rune: 'f'}: (*turn).wordOn,
		{Kind: keys.Ctrl, Rune: 'h'}: (*turn).cutAhead,
		{Kind: keys.Del}:             (*turn).cutHere,
		{Kind: keys.Ctrl, Rune: 'd'}: (*turn).cutHere,
		{Kind: keys.Ctrl, Rune: 'k'}: (*turn).killToEnd,
		{Kind: keys.Ctrl, Rune: 'u'}: (*turn).killToBegin,
		{Kind: keys.Ctrl, Rune: 'w'}: (*turn).killWordBack,
		{Kind: keys.Meta, Rune: 127}: (*turn).killWordBack,
		{Kind: keys.Meta, Rune: 'd'}: (*turn).killWordOn,
		{Kind: keys.Ctrl, Rune: 'y'}: (*turn).yank,
		{Kind: keys.Ctrl, Rune: 't'}: (*turn).swap,
	}
}

// name is a key without the rune, where what it does is the same with each one.
func name(k keys.Key) keys.Key {
	if k.Kind != keys.Ctrl && k.Kind != keys.Meta {
		k.Rune = 0
	}
	return k
}

func (t *turn) toBegin()  { t.at = 0 }
func (t *turn) toEnd()    { t.at = len(t.line) }
func (t *turn) oneBack()  { t.at = caret(t.line, t.at-1) }
func (t *turn) oneOn()    { t.at = caret(t.line, t.at+1) }
func (t *turn) wordBack() { t.at = Word(t.line, t.at, true) }
func (t *turn) wordOn()   { t.at = Word(t.line, t.at, false) }

func (t *turn) typeRune() { t.put(t.typed) }

func (t *turn) yank() {
	for _, r := range t.kill {
		if !t.put(r) {
			return
		}
	}
}

func (t *turn) cutAhead() { t.cut(caret(t.line, t.at-1), t.at) }
func (t *turn) cutHere()  { t.cut(t.at, caret(t.line, t.at+1)) }

func (t *turn) killToEnd()    { t.killed(t.at, len(t.line)) }
func (t *turn) killToBegin()  { t.killed(0, t.at) }
func (t *turn) killWordBack() { t.killed(Word(t.line, t.at, true), t.at) }
func (t *turn) killWordOn()   { t.killed(t.at, Word(t.line, t.at, false)) }

// swap leaves alone a rune that it could not put again.
func (t *turn) swap() {
	if t.at == 0 || t.long < 2 || t.long > api.MaxRunes {
		return
	}
	at := min(t.at, t.long-1)
	first := t.line[at-1]
	if !mesg.Rune(first) {
		return
	}
	t.cut(at-1, at)
	t.at = at
	t.put(first)
}

// put puts a rune ahead of the caret, if it may be there.
func (t *turn) put(r int) bool {
	if !mesg.Rune(r) || t.long >= api.MaxRunes {
		return false
	}
	t.acts = append(t.acts, Act{Kind: Put, At: t.at, Rune: r})
	t.at++
	t.long++
	return true
}

// cut cuts runes, each one where the first of them stood: the caret is there, too.
func (t *turn) cut(from, to int) {
	for _, r := range t.line[from:to] {
		t.acts = append(t.acts, Act{Kind: Cut, At: from, Rune: r})
	}
	t.at = from
	t.long -= to - from
}

// killed cuts what can be yanked again; where there is nothing to cut, that stays what it was.
func (t *turn) killed(from, to int) {
	if from == to {
		return
	}
	t.kill = t.line[from:to]
	t.cut(from, to)
}
