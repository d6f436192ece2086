package image

import (
	"tumulus/api"
	"tumulus/code"
)

// laid is bytes behind which more are laid. Laying has no errors: all that is in a right heap or a right
// state are numbers, and a right heap's bytes are far fewer than a text may have.
type laid []byte

func (l *laid) numbers(list ...int) {
	for _, n := range list {
		b, _ := code.PutNumber(nil, n)
		*l = append(*l, b...)
	}
}

func (l *laid) ints(list ...int) {
	for _, n := range list {
		*l = append(*l, code.PutInt(nil, n)...)
	}
}

func (l *laid) text(s string) {
	b, _ := code.PutText(nil, s)
	*l = append(*l, b...)
}

func (l *laid) op(o api.Op) {
	l.ints(int(o.Kind), o.H, o.I, o.N, o.K, o.V, o.T)
}

func (l *laid) heap(h api.Heap) {
	l.numbers(h.Order, h.Next)
	l.numbers(h.Tops[:]...)
	l.numbers(len(h.Objects))
	for _, o := range h.Objects {
		l.numbers(o.Handle, o.Block.At, len(o.Words), len(o.Links))
		l.ints(o.Words...)
		l.numbers(o.Links...)
	}
}

func (l *laid) state(s api.State) {
	var h laid
	h.heap(s.Heap)
	l.text(string(h))
	l.numbers(len(s.Rows))
	for _, r := range s.Rows {
		l.numbers(r.Client, r.Seq, int(r.Result.Code))
		l.ints(r.Result.Value)
	}
}
