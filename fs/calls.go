package fs

import (
	"lockgate/api"
	"lockgate/entry"
)

// changes are what is done to the image, by the Kind of a call. The tree has done the call already: there is nothing wrong with it, and there is room.
//
// In each of them the order matters: what a name leads to is there ahead of the name; links are counted up ahead of a name, and down behind it; what is renamed has its new name ahead of losing the old one.
func changes() map[int]func(*FS, api.Call) {
	return map[int]func(*FS, api.Call){
		api.CCreate: (*FS).create,
		api.CMkdir:  (*FS).mkdir,
		api.CLink:   (*FS).link,
		api.CUnlink: (*FS).unlink,
		api.CRmdir:  (*FS).rmdir,
		api.CRename: (*FS).rename,
		api.CWrite:  (*FS).write,
		api.CTrunc:  (*FS).trunc,
	}
}

func (f *FS) create(c api.Call) {
	to := f.place(c.Path)
	ino := f.freshInode(to.dir)
	f.turn(ino, func(i *api.Inode) { i.Kind, i.Links = api.File, 1 })
	f.enter(to, ino)
}

func (f *FS) mkdir(c api.Call) {
	to := f.place(c.Path)
	ino := f.freshInode(to.dir)
	b, _ := entry.PackBlock([]api.Entry{{Ino: ino, Name: "."}, {Ino: to.dir, Name: ".."}})
	block := f.freshBlock(ino, b)
	f.turn(ino, func(i *api.Inode) { i.Kind, i.Links, i.Size, i.Direct[0] = api.Dir, 2, api.Block, block })
	f.links(to.dir, 1)
	f.enter(to, ino)
}

func (f *FS) link(c api.Call) {
	ino := f.node(c.Path)
	f.links(ino, 1)
	f.enter(f.place(c.To), ino)
}

func (f *FS) unlink(c api.Call) {
	from := f.place(c.Path)
	ino := f.names[from].ino
	f.remove(from)
	f.loseName(ino)
}

// loseName sees to an inode of which a name is gone: a file goes with its last one, a directory with its only one.
func (f *FS) loseName(ino int) {
	if i := f.inode(ino); i.Kind == api.File && i.Links > 1 {
		f.links(ino, -1)
		return
	}
	f.freeInode(ino)
}

func (f *FS) rmdir(c api.Call) {
	from := f.place(c.Path)
	ino := f.names[from].ino
	f.remove(from)
	f.links(from.dir, -1)
	f.loseName(ino)
}

func (f *FS) rename(c api.Call) {
	from, to := f.place(c.Path), f.place(c.To)
	ino, gone := f.names[from].ino, f.names[to].ino
	if ino == gone {
		return
	}
	isDir := f.inode(ino).Kind == api.Dir
	moves := isDir && from.dir != to.dir
	f.links(ino, 1) // while it has both names
	if gone != 0 {
		f.replace(to, ino)
	} else {
		if moves {
			f.links(to.dir, 1)
		}
		f.enter(to, ino)
	}
	if moves {
		f.putEntry(ino, 1, api.Entry{Ino: to.dir, Name: ".."})
	}
	f.remove(from)
	f.links(ino, -1)
	if moves || isDir && gone != 0 {
		f.links(from.dir, -1)
	}
	if gone != 0 {
		f.loseName(gone)
	}
}

func (f *FS) write(c api.Call) {
	if len(c.Data) == 0 {
		return
	}
	ino, end := f.node(c.Path), c.Off+len(c.Data)
	for off, data := c.Off, c.Data; len(data) > 0; {
		n := off / api.Block
		b := f.contents(ino, n)
		count := copy(b[off%api.Block:], data)
		f.setContents(ino, n, b)
		off, data = off+count, data[count:]
	}
	f.turn(ino, func(i *api.Inode) { i.Size = max(i.Size, end) })
}

func (f *FS) trunc(c api.Call) {
	ino := f.node(c.Path)
	f.cut(ino, c.N)
	n, at := c.N/api.Block, c.N%api.Block
	if at == 0 || f.at(f.inode(ino), n) == 0 {
		return
	}
	b := f.contents(ino, n)
	clear(b[at:])
	f.setContents(ino, n, b)
}
