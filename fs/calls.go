package fs

import (
	"slices"

	"lockgate/api"
	"lockgate/entry"
)

// changes are what calls do to the image, by their Kinds. The tree has done the call already: there is nothing wrong with it, and there is room.
//
// Each change hangs on those ahead of which it must not be on the disk: what a name leads to is there ahead of the name; links are counted up ahead of a name, and down behind it; what is renamed has its new name ahead of losing the old one; what is given back is not used anew while anything leads to it.
func changes() map[int]func(*FS, api.Call) {
	return map[int]func(*FS, api.Call){
		api.CCreate: (*FS).create,
		api.CMkdir:  (*FS).mkdir,
		api.CLink:   (*FS).link,
		api.CUnlink: (*FS).unlink,
		api.CRmdir:  (*FS).rmdir,
		api.CRename: (*FS).rename,
		api.CWrite:  (*FS).write,
		api.CTrunc:  (*FS).trunc,
	}
}

func (f *FS) create(c api.Call) {
	to := f.place(c.Path)
	ino, marked := f.freshInode(to.dir)
	is := f.turn(ino, func(i *api.Inode) { i.Kind, i.Links = api.File, 1 }, nil)
	f.give(to, ino, slices.Concat(marked, is))
}

func (f *FS) mkdir(c api.Call) {
	to := f.place(c.Path)
	ino, marked := f.freshInode(to.dir)
	b, _ := entry.PackBlock([]api.Entry{{Ino: ino, Name: "."}, {Ino: to.dir, Name: ".."}})
	block, there := f.freshBlock(ino, b, nil)
	is := f.turn(ino, func(i *api.Inode) { i.Kind, i.Links, i.Size, i.Direct[0] = api.Dir, 2, api.Block, block }, there)
	f.give(to, ino, slices.Concat(marked, is, f.links(to.dir, 1, nil)))
}

func (f *FS) link(c api.Call) {
	ino := f.node(c.Path)
	f.give(f.place(c.To), ino, f.links(ino, 1, nil))
}

func (f *FS) unlink(c api.Call) {
	from := f.place(c.Path)
	ino := f.names[from].ino
	f.loseName(ino, f.remove(from, nil))
}

// loseName sees to a file of which a name goes with these changes: it goes with its last one.
func (f *FS) loseName(ino int, gone []int) {
	if f.inode(ino).Links > 1 {
		f.links(ino, -1, gone)
		return
	}
	f.freeInode(ino, gone)
}

// rmdir takes a directory away. All that was done to it is on the disk first: behind that what is still in it can't be reached by it, nor can it be reached by ".." of what was moved out of it.
func (f *FS) rmdir(c api.Call) {
	from := f.place(c.Path)
	ino := f.names[from].ino
	gone := f.remove(from, f.of(ino))
	f.links(from.dir, -1, gone)
	f.freeInode(ino, gone)
}

func (f *FS) write(c api.Call) {
	if len(c.Data) == 0 {
		return
	}
	ino, end := f.node(c.Path), c.Off+len(c.Data)
	var there []int
	for off, data := c.Off, c.Data; len(data) > 0; {
		n := off / api.Block
		b := f.contents(ino, n)
		count := copy(b[off%api.Block:], data)
		there = append(there, f.setContents(ino, n, b)...)
		off, data = off+count, data[count:]
	}
	f.turn(ino, func(i *api.Inode) { i.Size = max(i.Size, end) }, there)
}

func (f *FS) trunc(c api.Call) {
	ino := f.node(c.Path)
	f.cut(ino, c.N)
	n, at := c.N/api.Block, c.N%api.Block
	if at == 0 || f.at(f.inode(ino), n) == 0 {
		return
	}
	b := f.contents(ino, n)
	clear(b[at:])
	f.setContents(ino, n, b)
}
