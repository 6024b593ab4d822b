package fs

import (
	"lockgate/api"
	"lockgate/entry"
	"lockgate/path"
)

// dots are the entries of a directory that name it and its parent; they are its first ones, in this order.
const dots = 2

// find is the inode to which the parts of a path lead that the tree has found.
func (f *FS) find(parts []string) int {
	ino := api.Root
	for _, part := range parts {
		ino = f.names[name{ino, part}].ino
	}
	return ino
}

// node is the inode of a path that the tree has found.
func (f *FS) node(s string) int {
	parts, _ := path.Split(s)
	return f.find(parts)
}

// place is where the name stands, or is to stand, of a path that the tree has taken.
func (f *FS) place(s string) name {
	parts, _ := path.Split(s)
	last := len(parts) - 1
	return name{f.find(parts[:last]), parts[last]}
}

// entryAt is a directory's entry of that number.
func (f *FS) entryAt(dir, at int) api.Entry {
	block := f.block(f.at(f.inode(dir), at/api.PerDir))
	from := at % api.PerDir * api.EntrySize
	e, _ := entry.Read(block[from : from+api.EntrySize])
	return e
}

// putEntry puts a directory's entry of that number. It lies within a sector: it comes to the disk at once.
func (f *FS) putEntry(dir, at int, e api.Entry) {
	b, _ := entry.Pack(e)
	f.put(f.at(f.inode(dir), at/api.PerDir), at%api.PerDir*api.EntrySize, b)
}

// firstFree is a directory's first free entry; behind them all, if none is.
func (f *FS) firstFree(dir int) int {
	at, end := f.used[dir], f.inode(dir).Size/api.EntrySize
	for at < end && f.entryAt(dir, at).Ino != 0 {
		at++
	}
	f.used[dir] = at
	return at
}

// enter gives an inode a name that its directory has not yet. The inode must be one already, and its links count that name.
func (f *FS) enter(to name, ino int) {
	at, size := f.firstFree(to.dir), f.inode(to.dir).Size
	e := api.Entry{Ino: ino, Name: to.text}
	if at*api.EntrySize < size {
		f.putEntry(to.dir, at, e)
	} else {
		b, _ := entry.PackBlock([]api.Entry{e})
		f.point(to.dir, size/api.Block, f.freshBlock(to.dir, b))
		f.turn(to.dir, func(i *api.Inode) { i.Size += api.Block })
	}
	f.names[to] = spot{at, ino}
}

// replace lets a name that is there name another inode.
func (f *FS) replace(to name, ino int) {
	at := f.names[to].at
	f.putEntry(to.dir, at, api.Entry{Ino: ino, Name: to.text})
	f.names[to] = spot{at, ino}
}

// remove frees the entry of a name that is there.
func (f *FS) remove(from name) {
	at := f.names[from].at
	f.putEntry(from.dir, at, api.Entry{})
	delete(f.names, from)
	f.used[from.dir] = min(f.used[from.dir], at)
}
