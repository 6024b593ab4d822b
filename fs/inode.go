package fs

import (
	"lockgate/api"
	"lockgate/bmap"
	"lockgate/dinode"
	"lockgate/geom"
)

// Levels of pointers: how many indirect blocks lie between one and a block of the file.
const (
	direct = iota
	single
	double
)

const pointerSize = api.Block / api.PerBlock

func (f *FS) inode(ino int) api.Inode {
	block, at, _ := geom.InodeAt(f.g, ino)
	i, _ := dinode.Read(f.block(block)[at : at+api.InodeSize])
	return i
}

// turn changes an inode. It lies within a sector: all of that comes to the disk at once.
func (f *FS) turn(ino int, how func(*api.Inode)) {
	i := f.inode(ino)
	how(&i)
	block, at, _ := geom.InodeAt(f.g, ino)
	b, _ := dinode.Pack(i)
	f.put(block, at, b)
}

// links counts an inode's links on.
func (f *FS) links(ino, by int) {
	f.turn(ino, func(i *api.Inode) { i.Links += by })
}

// freeInode takes an inode back that no name leads to any more, with all that it has.
func (f *FS) freeInode(ino int) {
	f.cut(ino, 0)
	f.turn(ino, func(i *api.Inode) { *i = api.Inode{} })
	f.room.Give(ino, 0)
	f.putHeads()
	delete(f.used, ino)
}

// at is the block to which a file's, or a directory's, pointer of its block n leads; 0: none.
func (f *FS) at(i api.Inode, n int) int {
	level, upper, lower, _ := bmap.Place(n)
	switch level {
	case direct:
		return i.Direct[upper]
	case single:
		return f.pointer(i.Single, upper)
	}
	return f.pointer(f.pointer(i.Double, upper), lower)
}

// pointer is one of those in an indirect block; without that block (0) there is none.
func (f *FS) pointer(table, at int) int {
	if table == 0 {
		return 0
	}
	return dinode.Pointers(f.block(table))[at]
}

// point lets the pointer of an inode's block n lead to a block, through fresh indirect blocks, where there are none.
func (f *FS) point(ino, n, to int) {
	level, upper, lower, _ := bmap.Place(n)
	i := f.inode(ino)
	switch level {
	case direct:
		i.Direct[upper] = to
	case single:
		i.Single = f.pointIn(ino, i.Single, upper, to)
	case double:
		table := f.pointIn(ino, f.pointer(i.Double, upper), lower, to)
		i.Double = f.pointIn(ino, i.Double, upper, table)
	}
	f.turn(ino, func(now *api.Inode) { *now = i })
}

// pointIn lets a pointer in an indirect block lead to a block, and tells the indirect block: a fresh one, if there was none (0).
func (f *FS) pointIn(ino, table, at, to int) int {
	if table == 0 {
		row := make([]int, api.PerBlock)
		row[at] = to
		b, _ := dinode.PackPointers(row)
		return f.freshBlock(ino, b)
	}
	b, _ := dinode.PackPointers([]int{to})
	f.put(table, at*pointerSize, b[:pointerSize])
	return table
}

// cut gives an inode a size, and takes the blocks behind it back, also the indirect ones that lead to nothing then.
func (f *FS) cut(ino, size int) {
	i := f.inode(ino)
	c := cutter{FS: f, count: bmap.Count(size)}
	for n := range i.Direct {
		i.Direct[n] = c.left(direct, i.Direct[n], n)
	}
	first, _ := bmap.First(single, 0)
	i.Single = c.left(single, i.Single, first)
	first, _ = bmap.First(double, 0)
	i.Double = c.left(double, i.Double, first)
	i.Size = size
	f.turn(ino, func(now *api.Inode) { *now = i })
	f.giveBlocks(c.gone)
}

// cutter takes blocks away from an inode.
type cutter struct {
	*FS
	count int   // how many of its first blocks may stay
	gone  []int // to these nothing of it will lead
}

// left is what is left of a pointer of a level, behind which the first block is the inode's block first: itself, or 0.
func (c *cutter) left(level, to, first int) int {
	if to == 0 || level == direct && first < c.count {
		return to
	}
	if level != direct {
		step := 1
		if level == double {
			step = api.PerBlock
		}
		row, some := dinode.Pointers(c.block(to)), 0
		for k := range row {
			row[k] = c.left(level-1, row[k], first+k*step)
			some |= row[k]
		}
		if some != 0 {
			b, _ := dinode.PackPointers(row)
			c.put(to, 0, b)
			return to
		}
	}
	c.gone = append(c.gone, to)
	return 0
}
