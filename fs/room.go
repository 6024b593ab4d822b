package fs

import (
	"slices"

	"lockgate/api"
	"lockgate/bits"
	"lockgate/geom"
	"lockgate/super"
)

// takeMarked takes all that the heads mark, and tells how many data blocks these are.
func (f *FS) takeMarked() int {
	var inodes, data [api.MaxGroups][]byte
	for group := range f.g.Groups {
		head, _ := geom.Head(f.g, group)
		inodes[group], data[group] = super.Bits(f.g, f.block(head))
	}
	for n := range geom.Inodes(f.g) {
		ino := api.Root + n
		if group, at, _ := geom.Group(f.g, ino); bits.Get(inodes[group], at) {
			f.room.Take(ino, 0)
			f.idle.Take(ino, 0)
		}
	}
	taken := 0
	for n := range geom.Blocks(f.g) {
		if bits.Get(data[n/f.g.Data], n%f.g.Data) {
			block, _ := geom.Data(f.g, n)
			f.room.Take(0, block)
			f.idle.Take(0, block)
			taken++
		}
	}
	return taken
}

// marker is the bit of a head that is on while something is given out.
type marker struct{ head, bit int }

func (f *FS) inodeMarker(ino int) marker {
	group, n, _ := geom.Group(f.g, ino)
	head, _ := geom.Head(f.g, group)
	return marker{head, super.InodeBit(n)}
}

func (f *FS) blockMarker(block int) marker {
	n, _ := geom.DataOf(f.g, block)
	head, _ := geom.Head(f.g, n/f.g.Data)
	return marker{head, super.DataBit(n % f.g.Data)}
}

// mark turns a marker on. It tells the changes behind which it is on on the disk; and those behind which it would have been off there, if that is to come yet.
func (f *FS) mark(m marker) ([]int, []int) {
	off := f.behind(m.head, bit(m.bit))
	return f.alter(f.turned(m.head, m.bit, true), nil), off
}

// unmark turns a marker off behind these changes. When it is off on the disk too it is told that something is idle, unless that was given out anew by then.
func (f *FS) unmark(m marker, behind []int, idle func()) {
	a := f.turned(m.head, m.bit, false)
	a.then = func() {
		if !bits.Get(f.block(m.head), m.bit) {
			idle()
		}
	}
	f.alter(a, behind)
}

// freshInode gives an inode out, if it may be one of the group of another, and tells the changes behind which it is marked. There is one, since the tree counts too: an idle one if it may be, so that nothing waits for what was taken back.
func (f *FS) freshInode(near int) (int, []int) {
	group, _, _ := geom.Group(f.g, near)
	ino, ok := f.idle.Inode(group)
	if ok {
		f.room.Take(ino, 0)
	} else {
		ino, _ = f.room.Inode(group)
	}
	on, _ := f.mark(f.inodeMarker(ino))
	return ino, on
}

// giveInode takes an inode back that is free behind these changes.
func (f *FS) giveInode(ino int, free []int) {
	f.room.Give(ino, 0)
	f.unmark(f.inodeMarker(ino), free, func() { f.idle.Give(ino, 0) })
}

// freshBlock gives a data block out as tryBlock does. There is one, since the tree counts too.
func (f *FS) freshBlock(near int, b []byte, on []int) (int, []int) {
	block, there, _ := f.tryBlock(near, b, on)
	return block, there
}

// tryBlock gives a data block out, if it may be one of an inode's group, and puts bytes into it, behind the changes on. It tells the changes behind which these lie there, and the block is marked; false: there is no room.
//
// An idle block is taken if it may be. Whoever had another one ahead may lead to it on the disk until it is not marked there any more: until then its bytes stay there what they were.
func (f *FS) tryBlock(near int, b []byte, on []int) (int, []int, bool) {
	group, _, _ := geom.Group(f.g, near)
	block, ok := f.idle.Block(group)
	if ok {
		f.room.Take(0, block)
	} else if block, ok = f.room.Block(group); !ok {
		return 0, nil, false
	}
	marked, free := f.mark(f.blockMarker(block))
	there := f.alter(f.laid(block, 0, b), slices.Concat(on, free))
	return block, slices.Concat(marked, there), true
}

// giveBlocks takes data blocks back to which nothing leads behind these changes.
func (f *FS) giveBlocks(l, behind []int) {
	for _, block := range l {
		f.room.Give(0, block)
		f.unmark(f.blockMarker(block), behind, func() { f.idle.Give(0, block) })
	}
}
