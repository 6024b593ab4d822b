package syncer

import (
	"container/heap"
	"iter"

	"lockgate/deps"
)

// writes goes over the buffers to be written until all of need are done. With each of need, all that it hangs on is among them; so no other change has to be looked at, whether a write brings it along or not.
func writes(g *deps.Graph, need []int) iter.Seq[int] {
	return func(yield func(int) bool) {
		p := pending{free: make(map[int][]*change)}
		p.lay(g, need)
		for len(p.row) > 0 {
			buf := heap.Pop(&p.row).(int)
			if !yield(buf) {
				return
			}
			p.write(buf)
		}
	}
}

// pending is what is still to be done.
type pending struct {
	free map[int][]*change // by buffer those that hang on nothing any more
	row  row               // the buffers that have such ones
}

// change is one that is not done.
type change struct {
	buf   int
	waits int       // on how many that are not done it hangs
	above []*change // those that hang on it
}

// lay takes the changes up, each with what hangs on it.
func (p *pending) lay(g *deps.Graph, need []int) {
	all := make(map[int]*change, len(need))
	for _, id := range need {
		all[id] = &change{}
	}
	for _, id := range need {
		c := all[id]
		buf, on, _ := g.Change(id)
		c.buf, c.waits = buf, len(on)
		for _, o := range on {
			all[o].above = append(all[o].above, c)
		}
		if c.waits == 0 {
			p.release(c)
		}
	}
}

// release lets a write of its buffer bring the change to the disk.
func (p *pending) release(c *change) {
	if len(p.free[c.buf]) == 0 {
		heap.Push(&p.row, c.buf)
	}
	p.free[c.buf] = append(p.free[c.buf], c)
}

// write brings to the disk what is free in the buffer. What hung on that alone is for a later write, even in the same buffer.
func (p *pending) write(buf int) {
	done := p.free[buf]
	delete(p.free, buf)
	for _, c := range done {
		for _, a := range c.above {
			if a.waits--; a.waits == 0 {
				p.release(a)
			}
		}
	}
}

// row is a heap of buffers, each of them once: the least one comes first.
type row []int

func (r row) Len() int           { return len(r) }
func (r row) Less(i, j int) bool { return r[i] < r[j] }
func (r row) Swap(i, j int)      { r[i], r[j] = r[j], r[i] }

func (r *row) Push(buf any) { *r = append(*r, buf.(int)) }

func (r *row) Pop() any {
	last := len(*r) - 1
	buf := (*r)[last]
	*r = (*r)[:last]
	return buf
}
