package tree

import (
	"lockgate/api"
	"lockgate/path"
)

func (t *Tree) create(c api.Call) api.Result {
	return failed(t.enter(c.Path, newFile()))
}

func (t *Tree) mkdir(c api.Call) api.Result {
	return failed(t.enter(c.Path, newDir()))
}

// enter gives a new node a name.
func (t *Tree) enter(s string, n *node) api.Errno {
	parts, err := path.Split(s)
	if err != api.OK {
		return err
	}
	at, err := t.unnamed(parts)
	if err != api.OK {
		return err
	}
	if n.kind == api.Dir && at.dir.links >= api.MaxLinks {
		return api.ErrLinks
	}
	if err := t.take(1, room(n.numbers())+at.dir.growth()); err != api.OK {
		return err
	}
	at.dir.add(at.name, n)
	if n.kind == api.Dir {
		at.dir.links++
	}
	return api.OK
}

// take takes room, if there is so much.
func (t *Tree) take(inodes, blocks int) api.Errno {
	if !t.fits(inodes, blocks) {
		return api.ErrSpace
	}
	t.inodes += inodes
	t.blocks += blocks
	return api.OK
}

func (t *Tree) link(c api.Call) api.Result {
	from, to, err := both(c)
	if err != api.OK {
		return failed(err)
	}
	n, err := t.find(from)
	if err != api.OK {
		return failed(err)
	}
	if n.kind == api.Dir {
		return failed(api.ErrIsDir)
	}
	at, err := t.unnamed(to)
	if err != api.OK {
		return failed(err)
	}
	if n.links >= api.MaxLinks {
		return failed(api.ErrLinks)
	}
	if err := t.take(0, at.dir.growth()); err != api.OK {
		return failed(err)
	}
	at.dir.add(at.name, n)
	n.links++
	return api.Result{}
}

func (t *Tree) unlink(c api.Call) api.Result {
	at, err := t.named(c.Path)
	if err != api.OK {
		return failed(err)
	}
	if at.named.kind == api.Dir {
		return failed(api.ErrIsDir)
	}
	at.dir.remove(at.name)
	t.lose(at)
	return api.Result{}
}

func (t *Tree) rmdir(c api.Call) api.Result {
	at, err := t.named(c.Path)
	if err != api.OK {
		return failed(err)
	}
	if at.named.kind != api.Dir {
		return failed(api.ErrNotDir)
	}
	if len(at.named.places) > 0 {
		return failed(api.ErrFull)
	}
	at.dir.remove(at.name)
	t.lose(at)
	return api.Result{}
}

// lose takes the link away that a spot was: without links a file goes, and a directory has this one only.
func (t *Tree) lose(at spot) {
	n := at.named
	if n.kind == api.Dir {
		at.dir.links--
	} else if n.links--; n.links > 0 {
		return
	}
	t.inodes--
	t.blocks -= room(n.numbers())
}

func (t *Tree) rename(c api.Call) api.Result {
	from, to, err := both(c)
	if err != api.OK {
		return failed(err)
	}
	if len(from) == 0 || len(to) == 0 {
		return failed(api.ErrRoot)
	}
	old, err := t.spot(from)
	if err != api.OK {
		return failed(err)
	}
	if old.named == nil {
		return failed(api.ErrNone)
	}
	at, err := t.spot(to)
	if err != api.OK {
		return failed(err)
	}
	if t.within(to[:len(to)-1], old.named) {
		return failed(api.ErrLoop)
	}
	if at.named != nil {
		return failed(t.moveOnto(old, at))
	}
	return failed(t.move(old, at))
}

// moveOnto lets a name that is there name what the old one does, and frees the old one.
func (t *Tree) moveOnto(old, at spot) api.Errno {
	moved, there := old.named.kind, at.named.kind
	switch {
	case old.named == at.named:
		return api.OK
	case moved == api.Dir && there != api.Dir:
		return api.ErrNotDir
	case moved != api.Dir && there == api.Dir:
		return api.ErrIsDir
	case there == api.Dir && len(at.named.places) > 0:
		return api.ErrFull
	}
	at.dir.put(at.name, old.named)
	t.lose(at)
	leave(old, at)
	return api.OK
}

// move gives what the old name names a name that is not there yet, and frees the old one only then: its slot can't be taken.
func (t *Tree) move(old, at spot) api.Errno {
	if old.named.kind == api.Dir && at.dir != old.dir && at.dir.links >= api.MaxLinks {
		return api.ErrLinks
	}
	if err := t.take(0, at.dir.growth()); err != api.OK {
		return err
	}
	at.dir.add(at.name, old.named)
	leave(old, at)
	return api.OK
}

// leave frees the old name of what has its new one already; a directory's links go over to its new place.
func leave(old, at spot) {
	old.dir.remove(old.name)
	if old.named.kind == api.Dir {
		old.dir.links--
		at.dir.links++
	}
}
