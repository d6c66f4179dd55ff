package mesg

import (
	"strings"

	"duet/api"
	"duet/pack"
)

// numbers writes numbers of a message that may be: pack has bytes for each of them.
func numbers(list ...int) string {
	var b strings.Builder
	for _, n := range list {
		s, _ := pack.Num(n)
		b.WriteString(s)
	}
	return b.String()
}

// source is what is still to be read of a message. What cannot be read panics with its error, so that Decode reads on without asking each time.
type source struct{ rest string }

func (in *source) number() int {
	n, rest, e := pack.Take(in.rest)
	if e != api.OK {
		panic(e)
	}
	in.rest = rest
	return n
}

func (in *source) list() []int {
	l, rest, e := pack.Each(in.rest)
	if e != api.OK {
		panic(e)
	}
	in.rest = rest
	return l
}

func (in *source) id() api.Id {
	time := in.number()
	return api.Id{Time: time, Site: in.number()}
}

func (in *source) op() api.Op {
	op := api.Op{Kind: in.number()}
	// What is behind a kind that is none cannot be told: this is wrong ahead of whatever follows.
	if op.Kind < api.Insert || op.Kind > api.Withdraw {
		panic(api.ErrForm)
	}
	op.Epoch = in.number()
	if hasId(op.Kind) {
		op.Id = in.id()
	}
	if hasRef(op.Kind) {
		op.Ref = in.id()
	}
	if hasRune(op.Kind) {
		op.Rune = in.number()
	}
	return op
}

func (in *source) end() {
	if in.rest != "" {
		panic(api.ErrForm)
	}
}
