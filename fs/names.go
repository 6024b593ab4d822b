package fs

import (
	"slices"

	"lockgate/api"
	"lockgate/entry"
	"lockgate/path"
)

// dots are the entries of a directory that name it and its parent; they are its first ones, in this order.
const dots = 2

// find is the inode to which the parts of a path lead that the tree has found.
func (f *FS) find(parts []string) int {
	ino := api.Root
	for _, part := range parts {
		ino = f.names[name{ino, part}].ino
	}
	return ino
}

// node is the inode of a path that the tree has found.
func (f *FS) node(s string) int {
	parts, _ := path.Split(s)
	return f.find(parts)
}

// place is where the name stands, or is to stand, of a path that the tree has taken.
func (f *FS) place(s string) name {
	parts, _ := path.Split(s)
	last := len(parts) - 1
	return name{f.find(parts[:last]), parts[last]}
}

// entryAt is a directory's entry of that number.
func (f *FS) entryAt(dir, at int) api.Entry {
	block := f.block(f.at(f.inode(dir), at/api.PerDir))
	from := at % api.PerDir * api.EntrySize
	e, _ := entry.Read(block[from : from+api.EntrySize])
	return e
}

// putEntry puts a directory's entry of that number. It lies within a sector: it comes to the disk at once.
func (f *FS) putEntry(dir, at int, e api.Entry, on []int) []int {
	b, _ := entry.Pack(e)
	return f.put(f.at(f.inode(dir), at/api.PerDir), at%api.PerDir*api.EntrySize, b, on)
}

// slot is the number of a name's entry: that which it has, or a free one.
func (f *FS) slot(of name) int {
	if s, ok := f.names[of]; ok {
		return s.at
	}
	at, end := f.used[of.dir], f.inode(of.dir).Size/api.EntrySize
	for at < end && f.entryAt(of.dir, at).Ino != 0 {
		at++
	}
	f.used[of.dir] = at
	if at == end {
		f.grow(of.dir)
	}
	return at
}

// grow gives a directory a block of free entries more.
func (f *FS) grow(dir int) {
	n := f.inode(dir).Size / api.Block
	block, there := f.freshBlock(dir, make([]byte, api.Block), nil)
	leads := f.point(dir, n, block, there)
	f.grown.set(f.graph, dir, f.turn(dir, func(i *api.Inode) { i.Size += api.Block }, leads))
}

// give lets a name, there or not, name an inode, which must be one, and count that link.
func (f *FS) give(to name, ino int, on []int) []int {
	return f.giveAt(to, f.slot(to), ino, on)
}

// giveAt does so with the entry of that number. Behind it the inode can be reached by the name: so the way to that entry is on the disk ahead of it.
//
// The names of an inode come and go on the disk as they came and went in memory: what had a name at all times has one there at all times. So do the entries of a name: no two of them stand there together.
func (f *FS) giveAt(to name, at, ino int, on []int) []int {
	gone := f.names[to].ino
	on = slices.Concat(on, f.way(to.dir), f.grown.of(to.dir), f.freed.of(to), f.named.of(ino), f.named.of(gone))
	given := f.putEntry(to.dir, at, api.Entry{Ino: ino, Name: to.text}, on)
	f.names[to] = spot{at, ino}
	f.named.set(f.graph, ino, given)
	if gone != 0 {
		f.named.set(f.graph, gone, given)
	}
	return given
}

// remove frees the entry of a name that is there.
func (f *FS) remove(from name, on []int) []int {
	s := f.names[from]
	taken := f.putEntry(from.dir, s.at, api.Entry{}, slices.Concat(on, f.named.of(s.ino)))
	delete(f.names, from)
	f.used[from.dir] = min(f.used[from.dir], s.at)
	f.named.set(f.graph, s.ino, taken)
	f.freed.set(f.graph, from, taken)
	return taken
}

// way are the changes behind which a directory is reached on the disk as it is in memory: its own name, and those of all above it.
func (f *FS) way(dir int) []int {
	var on []int
	for dir != api.Root {
		on = append(on, f.named.of(dir)...)
		dir = f.entryAt(dir, 1).Ino
	}
	return on
}

// whole are the changes behind which the node of a path that the tree has found lies on the disk as it is in memory, with all its names, and can be reached by that path, and by no other one that a repair might meet first. A directory's slots name what they name then, too.
func (f *FS) whole(s string) []int {
	parts, _ := path.Split(s)
	ino := api.Root
	var on []int
	for _, part := range parts {
		ino = f.names[name{ino, part}].ino
		on = append(on, f.named.of(ino)...)
	}
	on = append(on, f.of(ino)...)
	if f.inode(ino).Kind == api.Dir {
		for at := dots; at < f.inode(ino).Size/api.EntrySize; at++ {
			on = append(on, f.named.of(f.entryAt(ino, at).Ino)...)
		}
	}
	return on
}
