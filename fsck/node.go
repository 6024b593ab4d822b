package fsck

import (
	"iter"

	"lockgate/api"
	"lockgate/bmap"
	"lockgate/dinode"
)

// node is an inode that was taken in.
type node struct {
	ino     int
	parent  int           // of a directory
	inode   api.Inode     // as it will be
	tables  map[int][]int // the pointers of its indirect blocks, by block
	claims  []claim       // in the order of its pointers
	entries []api.Entry   // of a directory, PerDir for each of its blocks
}

// claim is a data block that an inode has.
type claim struct {
	block, first int
	last         bool
}

// pointer is a pointer of an inode.
type pointer struct {
	to    *int // where it stands
	first int  // the file's first block to which it leads
	last  bool // it leads to that block itself, not to one of pointers
}

// pointers goes down an inode's pointers, in the order in which they are kept. It goes below one only if that one is not 0 when it goes on: who ranges over them cuts off what is not to be looked at.
func (n *node) pointers(image []byte) iter.Seq[pointer] {
	return func(yield func(pointer) bool) {
		for i := range n.inode.Direct {
			first, _ := bmap.First(0, i)
			if !yield(pointer{to: &n.inode.Direct[i], first: first, last: true}) {
				return
			}
		}
		first, _ := bmap.First(1, 0)
		if !n.below(image, &n.inode.Single, first, yield) {
			return
		}
		first, _ = bmap.First(2, 0)
		if !yield(pointer{to: &n.inode.Double, first: first}) || n.inode.Double == 0 {
			return
		}
		table := n.table(image, n.inode.Double)
		for i := range table {
			first, _ := bmap.First(2, i)
			if !n.below(image, &table[i], first, yield) {
				return
			}
		}
	}
}

// below tells a pointer to a block of pointers to blocks of the file, and those behind it.
func (n *node) below(image []byte, to *int, first int, yield func(pointer) bool) bool {
	if !yield(pointer{to: to, first: first}) {
		return false
	}
	if *to == 0 {
		return true
	}
	table := n.table(image, *to)
	for i := range table {
		if !yield(pointer{to: &table[i], first: first + i, last: true}) {
			return false
		}
	}
	return true
}

// table is an indirect block's pointers, read off the image once: then they are as they were left.
func (n *node) table(image []byte, block int) []int {
	if _, ok := n.tables[block]; !ok {
		n.tables[block] = dinode.Pointers(blockOf(image, block))
	}
	return n.tables[block]
}

// blocks goes over a directory's blocks; of a file it tells none.
func (n *node) blocks() iter.Seq2[int, int] {
	return func(yield func(int, int) bool) {
		if n.inode.Kind != api.Dir {
			return
		}
		for _, c := range n.claims {
			if c.last && !yield(c.first, c.block) {
				return
			}
		}
	}
}

// slots goes over a directory's entries but for the first two.
func (n *node) slots() iter.Seq2[int, api.Entry] {
	return func(yield func(int, api.Entry) bool) {
		for k, e := range n.entries {
			if k >= dots && !yield(k, e) {
				return
			}
		}
	}
}
