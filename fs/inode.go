package fs

import (
	"iter"
	"slices"

	"lockgate/api"
	"lockgate/bmap"
	"lockgate/dinode"
	"lockgate/geom"
)

// Levels of pointers: how many indirect blocks lie between one and a block of the file.
const (
	direct = iota
	single
	double
)

const pointerSize = api.Block / api.PerBlock

func (f *FS) inode(ino int) api.Inode {
	block, at, _ := geom.InodeAt(f.g, ino)
	i, _ := dinode.Read(f.block(block)[at : at+api.InodeSize])
	return i
}

// turn changes an inode. It lies within a sector, and is always put whole: on the disk it is as it was in memory at some moment.
func (f *FS) turn(ino int, how func(*api.Inode), on []int) []int {
	i := f.inode(ino)
	how(&i)
	block, at, _ := geom.InodeAt(f.g, ino)
	b, _ := dinode.Pack(i)
	return f.put(block, at, b, on)
}

// links counts an inode's links on.
func (f *FS) links(ino, by int, on []int) []int {
	return f.turn(ino, func(i *api.Inode) { i.Links += by }, on)
}

// freeInode takes an inode back, with all that it has, to which nothing leads any more behind these changes.
func (f *FS) freeInode(ino int, on []int) {
	blocks := slices.Collect(f.blocks(ino))
	free := f.turn(ino, func(i *api.Inode) { *i = api.Inode{} }, on)
	f.giveBlocks(blocks, free)
	f.giveInode(ino, free)
	delete(f.used, ino)
}

// blocks goes over the data blocks that an inode has, the indirect ones too.
func (f *FS) blocks(ino int) iter.Seq[int] {
	return func(yield func(int) bool) {
		i := f.inode(ino)
		for _, to := range i.Direct {
			if !f.down(direct, to, yield) {
				return
			}
		}
		if f.down(single, i.Single, yield) {
			f.down(double, i.Double, yield)
		}
	}
}

// down tells the block to which a pointer of a level leads, and those to which that leads; false: no more of them are asked for.
func (f *FS) down(level, to int, yield func(int) bool) bool {
	if to == 0 {
		return true
	}
	if !yield(to) {
		return false
	}
	if level == direct {
		return true
	}
	for _, below := range dinode.Pointers(f.block(to)) {
		if !f.down(level-1, below, yield) {
			return false
		}
	}
	return true
}

// of are the changes that are left in an inode and in its blocks.
func (f *FS) of(ino int) []int {
	block, at, _ := geom.InodeAt(f.g, ino)
	out := f.behind(block, bytesFrom(at, api.InodeSize))
	for block := range f.blocks(ino) {
		out = append(out, numbers(f.left[block])...)
	}
	return out
}

// at is the block to which a file's, or a directory's, pointer of its block n leads; 0: none.
func (f *FS) at(i api.Inode, n int) int {
	level, upper, lower, _ := bmap.Place(n)
	switch level {
	case direct:
		return i.Direct[upper]
	case single:
		return f.pointer(i.Single, upper)
	}
	return f.pointer(f.pointer(i.Double, upper), lower)
}

// pointer is one of those in an indirect block; without that block (0) there is none.
func (f *FS) pointer(table, at int) int {
	if table == 0 {
		return 0
	}
	return dinode.Pointers(f.block(table))[at]
}

// point lets the pointer of an inode's block n lead to a block, through fresh indirect blocks, where there are none.
func (f *FS) point(ino, n, to int, on []int) []int {
	level, upper, lower, _ := bmap.Place(n)
	i := f.inode(ino)
	switch level {
	case direct:
		i.Direct[upper] = to
	case single:
		i.Single, on = f.pointIn(ino, i.Single, upper, to, on)
	case double:
		var table int
		table, on = f.pointIn(ino, f.pointer(i.Double, upper), lower, to, on)
		i.Double, on = f.pointIn(ino, i.Double, upper, table, on)
	}
	return f.turn(ino, func(now *api.Inode) { *now = i }, on)
}

// pointIn lets a pointer in an indirect block lead to a block, and tells the indirect block: a fresh one, if there was none (0).
func (f *FS) pointIn(ino, table, at, to int, on []int) (int, []int) {
	if table == 0 {
		row := make([]int, api.PerBlock)
		row[at] = to
		b, _ := dinode.PackPointers(row)
		return f.freshBlock(ino, b, on)
	}
	b, _ := dinode.PackPointers([]int{to})
	return table, f.put(table, at*pointerSize, b[:pointerSize], on)
}
