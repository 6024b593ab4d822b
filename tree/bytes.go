package tree

import (
	"iter"

	"lockgate/api"
)

// piece is a run of bytes that lies in one block of a file: the block, the place of the run's first byte there, and the run's own bounds among all the bytes.
type piece struct {
	block, at, from, end int
}

// pieces goes over the blocks that n bytes from off on meet.
func pieces(off, n int) iter.Seq[piece] {
	return func(yield func(piece) bool) {
		for from := 0; from < n; {
			at := (off + from) % api.Block
			end := min(n, from+api.Block-at)
			if !yield(piece{(off + from) / api.Block, at, from, end}) {
				return
			}
			from = end
		}
	}
}

func (t *Tree) read(c api.Call) api.Result {
	if c.Off < 0 || c.N < 0 || c.N > api.MaxIO {
		return failed(api.ErrArg)
	}
	n, err := t.file(c.Path)
	if err != api.OK {
		return failed(err)
	}
	data := make([]byte, max(0, min(c.N, n.size-c.Off)))
	for p := range pieces(c.Off, len(data)) {
		if b, ok := n.blocks[p.block]; ok {
			copy(data[p.from:p.end], b[p.at:])
		}
	}
	return api.Result{Data: data}
}

func (t *Tree) write(c api.Call) api.Result {
	if c.Off < 0 || len(c.Data) > api.MaxIO {
		return failed(api.ErrArg)
	}
	n, err := t.file(c.Path)
	if err != api.OK {
		return failed(err)
	}
	if c.Off > api.MaxSize-len(c.Data) {
		return failed(api.ErrBig)
	}
	if len(c.Data) == 0 {
		return api.Result{}
	}
	if err := t.take(0, n.filling(c.Off, len(c.Data))); err != api.OK {
		return failed(err)
	}
	for p := range pieces(c.Off, len(c.Data)) {
		if _, ok := n.blocks[p.block]; !ok {
			n.blocks[p.block] = make([]byte, api.Block)
		}
		copy(n.blocks[p.block][p.at:], c.Data[p.from:p.end])
	}
	n.size = max(n.size, c.Off+len(c.Data))
	return api.Result{N: len(c.Data)}
}

// filling tells how many data blocks more a file takes with all blocks that these bytes meet.
func (n *node) filling(off, count int) int {
	var missing []int
	for p := range pieces(off, count) {
		if _, ok := n.blocks[p.block]; !ok {
			missing = append(missing, p.block)
		}
	}
	if len(missing) == 0 {
		return 0
	}
	has := n.numbers()
	return room(append(has, missing...)) - room(has)
}

func (t *Tree) trunc(c api.Call) api.Result {
	if c.N < 0 {
		return failed(api.ErrArg)
	}
	n, err := t.file(c.Path)
	if err != api.OK {
		return failed(err)
	}
	if c.N > api.MaxSize {
		return failed(api.ErrBig)
	}
	before := n.numbers()
	for _, block := range before {
		if block*api.Block >= c.N {
			delete(n.blocks, block)
		}
	}
	if b, ok := n.blocks[c.N/api.Block]; ok {
		clear(b[c.N%api.Block:])
	}
	n.size = c.N
	t.blocks -= room(before) - room(n.numbers())
	return api.Result{}
}

func (t *Tree) stat(c api.Call) api.Result {
	n, err := t.node(c.Path)
	if err != api.OK {
		return failed(err)
	}
	return api.Result{Kind: n.kind, Size: n.size, Links: n.links}
}

func (t *Tree) list(c api.Call) api.Result {
	n, err := t.node(c.Path)
	if err != api.OK {
		return failed(err)
	}
	if n.kind != api.Dir {
		return failed(api.ErrNotDir)
	}
	var names []string
	for _, s := range n.slots {
		if s.node != nil {
			names = append(names, s.name)
		}
	}
	return api.Result{Names: names}
}

// fsync looks for the path alone: a tree without a disk has nothing to write.
func (t *Tree) fsync(c api.Call) api.Result {
	_, err := t.node(c.Path)
	return failed(err)
}

func (t *Tree) sync(api.Call) api.Result {
	return api.Result{}
}
