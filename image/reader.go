package image

import (
	"tumulus/api"
	"tumulus/code"
	"tumulus/heap"
)

// reader reads what has to come next. Where that doesn't come, it gives up.
type reader struct{ from *code.Reader }

// whole is what b is by read, if read doesn't give up, and nothing is left of b.
func whole[T any](b []byte, read func(reader) T) (got T, e api.Errno) {
	defer func() {
		if recover() != nil {
			var none T
			got, e = none, api.ErrImageForm
		}
	}()
	r := reader{code.New(b)}
	got = read(r)
	if r.from.Left() > 0 {
		giveUp()
	}
	return got, api.OK
}

// giveUp ends a reading from within any depth of it; whole catches it.
func giveUp() {
	panic(api.ErrImageForm)
}

// must is what came, if it came without an error.
func must[T any](got T, e api.Errno) T {
	if e != api.OK {
		giveUp()
	}
	return got
}

// list reads so many, one behind the other. Nothing that is right has more than most of them: ahead of
// making room for more it gives up, as bytes may tell any count.
func list[T any](count, most int, read func() T) []T {
	if count > most {
		giveUp()
	}
	all := make([]T, count)
	for i := range all {
		all[i] = read()
	}
	return all
}

func (r reader) number() int {
	return must(r.from.Number())
}

func (r reader) int() int {
	return must(r.from.Int())
}

func (r reader) op() api.Op {
	o := api.Op{Kind: api.OpKind(r.int())}
	for _, field := range []*int{&o.H, &o.I, &o.N, &o.K, &o.V, &o.T} {
		*field = r.int()
	}
	return o
}

// heap begins with a new one, which there is just if the order is a region's.
func (r reader) heap() api.Heap {
	h := must(heap.New(r.number()))
	h.Next = r.number()
	for i := range h.Tops {
		h.Tops[i] = r.number()
	}
	// Each object has a word of the region at least.
	h.Objects = list(r.number(), 1<<h.Order, r.object)
	h.Free = freeBeside(h.Objects, 1<<h.Order)
	if heap.Check(h) != api.OK {
		giveUp()
	}
	return h
}

func (r reader) object() api.Object {
	o := api.Object{Handle: r.number()}
	o.Block.At = r.number()
	words := r.number()
	links := r.number()
	o.Words = list(words, api.MaxWords, r.int)
	o.Links = list(links, api.MaxLinks, r.number)
	o.Block.Order = heap.Need(words, links)
	return o
}

func (r reader) state() api.State {
	text := must(r.from.Text())
	h := must(GetHeap([]byte(text)))
	rows := list(r.number(), api.MaxClients, r.row)
	if !rowsRight(rows) {
		giveUp()
	}
	return api.State{Heap: h, Rows: rows}
}

func (r reader) row() api.Row {
	row := api.Row{Client: r.number()}
	row.Seq = r.number()
	row.Result.Code = api.Errno(r.number())
	row.Result.Value = r.int()
	return row
}
