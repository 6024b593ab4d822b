package fs

import "lockgate/api"

func (f *FS) rename(c api.Call) {
	from, to := f.place(c.Path), f.place(c.To)
	ino := f.names[from].ino
	if there, ok := f.names[to]; ok && there.ino == ino {
		return
	}
	switch i := f.inode(ino); {
	case i.Kind == api.Dir:
		f.renameDir(from, to)
	case i.Links < api.MaxLinks:
		f.renameFile(from, to)
	default:
		f.renameFull(from, to)
	}
}

// renameFile lets a file have both names for a while.
func (f *FS) renameFile(from, to name) {
	ino, gone := f.names[from].ino, f.names[to].ino
	moved := f.give(to, ino, f.links(ino, 1, nil))
	f.links(ino, -1, f.remove(from, nil))
	if gone != 0 {
		f.loseName(gone, moved)
	}
}

// renameFull renames a file that can't have a link more, not even for a while: a repair would take one of its names away, whichever it meets last.
func (f *FS) renameFull(from, to name) {
	ino, gone := f.names[from].ino, f.names[to].ino
	at := f.slot(to) // the old name's own slot is free only behind the call
	moved := f.giveAt(to, at, ino, f.remove(from, nil))
	if gone != 0 {
		f.loseName(gone, moved)
	}
}

// renameDir lets a directory have both names for a while. It names its parent by "..": links go over from one to the other.
func (f *FS) renameDir(from, to name) {
	ino, gone := f.names[from].ino, f.names[to].ino
	on := f.links(ino, 1, nil)
	moves := from.dir != to.dir
	if gone != 0 {
		on = append(on, f.of(gone)...)
	} else if moves {
		on = append(on, f.links(to.dir, 1, nil)...)
	}
	moved := f.give(to, ino, on)
	left := moved // behind it the old parent has a link less, if it has
	if moves {
		left = f.putEntry(ino, 1, api.Entry{Ino: to.dir, Name: ".."}, moved)
	}
	f.links(ino, -1, f.remove(from, nil))
	if moves || gone != 0 {
		f.links(from.dir, -1, left)
	}
	if gone != 0 {
		f.freeInode(gone, moved)
	}
}
