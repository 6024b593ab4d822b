package fs

import (
	"slices"

	"lockgate/api"
	"lockgate/bmap"
	"lockgate/dinode"
)

// cut gives an inode a size, and takes the blocks behind it back, also the indirect ones that lead to nothing then.
func (f *FS) cut(ino, size int) {
	i := f.inode(ino)
	c := cutter{FS: f, count: bmap.Count(size)}
	for n := range i.Direct {
		i.Direct[n] = c.kept(direct, i.Direct[n], n)
	}
	first, _ := bmap.First(single, 0)
	i.Single = c.kept(single, i.Single, first)
	first, _ = bmap.First(double, 0)
	i.Double = c.kept(double, i.Double, first)
	i.Size = size
	done := f.turn(ino, func(now *api.Inode) { *now = i }, nil)
	f.giveBlocks(c.gone, append(done, c.done...))
}

// cutter takes blocks away from an inode.
type cutter struct {
	*FS
	count int   // how many of its first blocks may stay
	gone  []int // to these nothing of it will lead
	done  []int // the changes of its indirect blocks that stay
}

// kept is what is kept of a pointer of a level, behind which the first block is the inode's block first: itself, or 0.
func (c *cutter) kept(level, to, first int) int {
	if to == 0 {
		return 0
	}
	stays := first < c.count
	if level != direct {
		stays = c.leads(level, to, first)
	}
	if stays {
		return to
	}
	c.gone = append(c.gone, to)
	return 0
}

// leads tells whether an indirect block still leads to something. If it does, those of its pointers that are not kept are 0; else it may go as it is.
func (c *cutter) leads(level, table, first int) bool {
	step := 1
	if level == double {
		step = api.PerBlock
	}
	was := dinode.Pointers(c.block(table))
	row := slices.Clone(was)
	for k := range row {
		row[k] = c.kept(level-1, row[k], first+k*step)
	}
	if !slices.ContainsFunc(row, func(to int) bool { return to != 0 }) {
		return false
	}
	if k := unlikeFrom(was, row); k < len(row) {
		b, _ := dinode.PackPointers(row[k:])
		c.done = append(c.done, c.put(table, k*pointerSize, b[:(len(row)-k)*pointerSize], nil)...)
	}
	return true
}

// unlikeFrom is the first place at which two lists of one length are unlike.
func unlikeFrom(a, b []int) int {
	k := 0
	for k < len(a) && a[k] == b[k] {
		k++
	}
	return k
}
