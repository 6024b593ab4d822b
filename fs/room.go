package fs

import (
	"lockgate/api"
	"lockgate/bits"
	"lockgate/geom"
	"lockgate/super"
)

// takeMarked takes all that the heads mark, and tells how many data blocks these are.
func (f *FS) takeMarked() int {
	var inodes, data [api.MaxGroups][]byte
	for group := range f.g.Groups {
		inodes[group], data[group] = super.Bits(f.g, f.block(f.head(group)))
	}
	for n := range geom.Inodes(f.g) {
		ino := api.Root + n
		if group, at, _ := geom.Group(f.g, ino); bits.Get(inodes[group], at) {
			f.room.Take(ino, 0)
		}
	}
	taken := 0
	for n := range geom.Blocks(f.g) {
		if bits.Get(data[n/f.g.Data], n%f.g.Data) {
			block, _ := geom.Data(f.g, n)
			f.room.Take(0, block)
			taken++
		}
	}
	return taken
}

func (f *FS) head(group int) int {
	block, _ := geom.Head(f.g, group)
	return block
}

// putHeads marks what is given out, and nothing else. A block must be marked ahead of the first pointer to it, and not be any more only behind the last one: so this comes first, or last.
func (f *FS) putHeads() {
	for group := range f.g.Groups {
		inodes, data := f.room.Bits(group)
		b, _ := super.Head(f.g, group, inodes, data)
		f.put(f.head(group), 0, b)
	}
}

// freshInode gives an inode out, if it may be one of the group of another. There is one, since the tree counts too.
func (f *FS) freshInode(near int) int {
	group, _, _ := geom.Group(f.g, near)
	ino, _ := f.room.Inode(group)
	f.putHeads()
	return ino
}

// freshBlock gives a data block out, if it may be one of an inode's group, and puts bytes into it. There is one, since the tree counts too.
func (f *FS) freshBlock(near int, b []byte) int {
	group, _, _ := geom.Group(f.g, near)
	block, _ := f.room.Block(group)
	f.putHeads()
	f.put(block, 0, b)
	return block
}

// giveBlocks takes data blocks back to which nothing leads any more.
func (f *FS) giveBlocks(l []int) {
	for _, block := range l {
		f.room.Give(0, block)
	}
	f.putHeads()
}
