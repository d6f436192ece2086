package heap

import (
	"slices"

	"tumulus/api"
	"tumulus/buddy"
)

// copied is a copy of a heap that is right. An operation is done on it in place: one that fails tells so
// ahead of its first change.
type copied struct{ api.Heap }

func copyOf(h api.Heap) *copied {
	c := &copied{h}
	c.Free = slices.Clone(h.Free)
	c.Objects = slices.Clone(h.Objects)
	for i, o := range h.Objects {
		c.Objects[i].Words = slices.Clone(o.Words)
		c.Objects[i].Links = slices.Clone(o.Links)
	}
	return c
}

func (c *copied) do(o api.Op) (int, api.Errno) {
	switch o.Kind {
	case api.OpAlloc:
		return c.alloc(o.N, o.K)
	case api.OpFree:
		return 0, c.drop(o.H)
	case api.OpWrite:
		return 0, c.write(o.H, o.I, o.V)
	case api.OpLink:
		return 0, c.lead(o.H, o.I, o.T)
	case api.OpRoot:
		return 0, c.leadTop(o.I, o.T)
	case api.OpRead:
		return read(c.word(o.H, o.I))
	case api.OpFollow:
		return read(c.link(o.H, o.I))
	case api.OpTop:
		return read(c.top(o.I))
	}
	return 0, api.ErrHeapForm
}

func (c *copied) alloc(words, links int) (int, api.Errno) {
	need := Need(words, links)
	if need < 0 {
		return 0, api.ErrHeapLarge
	}
	handle := c.Next
	if handle > api.MaxHandle {
		return 0, api.ErrLimit
	}
	if !buddy.Room(c.Order, c.Free, need) {
		return 0, api.ErrHeapSpace
	}
	var block api.Block
	block, c.Free, _ = buddy.Take(c.Order, c.Free, need)
	c.Objects = append(c.Objects, api.Object{Handle: handle, Block: block, Words: make([]int, words), Links: make([]int, links)})
	c.Next++
	return handle, api.OK
}

func (c *copied) drop(handle int) api.Errno {
	i, found := find(c.Objects, handle)
	if !found {
		return api.ErrHeapHandle
	}
	c.Free, _ = buddy.Give(c.Order, c.Free, c.Objects[i].Block)
	c.Objects = slices.Delete(c.Objects, i, i+1)
	for _, o := range c.Objects {
		forget(o.Links, handle)
	}
	forget(c.Tops[:], handle)
	return api.OK
}

func (c *copied) write(handle, i, value int) api.Errno {
	word, e := c.word(handle, i)
	if e != api.OK {
		return e
	}
	*word = value
	return api.OK
}

func (c *copied) lead(handle, i, to int) api.Errno {
	link, e := c.link(handle, i)
	if e != api.OK {
		return e
	}
	return c.aim(link, to)
}

func (c *copied) leadTop(i, to int) api.Errno {
	top, e := c.top(i)
	if e != api.OK {
		return e
	}
	return c.aim(top, to)
}

// aim lets a link or a root lead to a handle.
func (c *copied) aim(link *int, to int) api.Errno {
	if !mayLink(c.Objects, to) {
		return api.ErrHeapHandle
	}
	*link = to
	return api.OK
}

func (c *copied) word(handle, i int) (*int, api.Errno) {
	at, found := find(c.Objects, handle)
	if !found {
		return nil, api.ErrHeapHandle
	}
	return cell(c.Objects[at].Words, i)
}

func (c *copied) link(handle, i int) (*int, api.Errno) {
	at, found := find(c.Objects, handle)
	if !found {
		return nil, api.ErrHeapHandle
	}
	return cell(c.Objects[at].Links, i)
}

func (c *copied) top(i int) (*int, api.Errno) {
	return cell(c.Tops[:], i)
}

// cell is where the value in place i is kept, for asking and for changing it alike.
func cell(values []int, i int) (*int, api.Errno) {
	if i < 0 || i >= len(values) {
		return nil, api.ErrHeapIndex
	}
	return &values[i], api.OK
}

func read(cell *int, e api.Errno) (int, api.Errno) {
	if e != api.OK {
		return 0, e
	}
	return *cell, api.OK
}

// forget makes each link to a handle lead nowhere.
func forget(links []int, handle int) {
	for i, to := range links {
		if to == handle {
			links[i] = 0
		}
	}
}
