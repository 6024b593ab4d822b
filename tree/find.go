package tree

import (
	"iter"

	"lockgate/api"
	"lockgate/path"
)

// way goes over the nodes on the way down from the root, part by part; where it goes on no further, the error is told last.
func (t *Tree) way(parts []string) iter.Seq2[*node, api.Errno] {
	return func(yield func(*node, api.Errno) bool) {
		at := t.root
		for _, part := range parts {
			if !yield(at, api.OK) {
				return
			}
			if at.kind != api.Dir {
				yield(nil, api.ErrNotDir)
				return
			}
			next, ok := at.look(part)
			if !ok {
				yield(nil, api.ErrNone)
				return
			}
			at = next
		}
		yield(at, api.OK)
	}
}

// find is the node to which these parts lead.
func (t *Tree) find(parts []string) (*node, api.Errno) {
	var at *node
	var err api.Errno
	for at, err = range t.way(parts) {
	}
	return at, err
}

// within tells whether these parts lead to a node, or on through it.
func (t *Tree) within(parts []string, n *node) bool {
	for at := range t.way(parts) {
		if at == n {
			return true
		}
	}
	return false
}

// node is the one of a path.
func (t *Tree) node(s string) (*node, api.Errno) {
	parts, err := path.Split(s)
	if err != api.OK {
		return nil, err
	}
	return t.find(parts)
}

// file is the node of a path, which must be no directory.
func (t *Tree) file(s string) (*node, api.Errno) {
	n, err := t.node(s)
	if err != api.OK {
		return nil, err
	}
	if n.kind == api.Dir {
		return nil, api.ErrIsDir
	}
	return n, api.OK
}

// spot is where a name stands, or is to stand: the directory, the name, and what it names there (nil: nothing).
type spot struct {
	dir   *node
	name  string
	named *node
}

// spot finds the place of a path that is not the root.
func (t *Tree) spot(parts []string) (spot, api.Errno) {
	last := len(parts) - 1
	dir, err := t.find(parts[:last])
	if err != api.OK {
		return spot{}, err
	}
	if dir.kind != api.Dir {
		return spot{}, api.ErrNotDir
	}
	named, _ := dir.look(parts[last])
	return spot{dir, parts[last], named}, api.OK
}

// unnamed is the spot of a path at which nothing stands yet.
func (t *Tree) unnamed(parts []string) (spot, api.Errno) {
	if len(parts) == 0 {
		return spot{}, api.ErrExists
	}
	at, err := t.spot(parts)
	if err == api.OK && at.named != nil {
		err = api.ErrExists
	}
	return at, err
}

// named is the spot of a path at which something stands, but not the root.
func (t *Tree) named(s string) (spot, api.Errno) {
	parts, err := path.Split(s)
	if err != api.OK {
		return spot{}, err
	}
	if len(parts) == 0 {
		return spot{}, api.ErrRoot
	}
	at, err := t.spot(parts)
	if err == api.OK && at.named == nil {
		err = api.ErrNone
	}
	return at, err
}

// both are the parts of a call's two paths.
func both(c api.Call) ([]string, []string, api.Errno) {
	from, err := path.Split(c.Path)
	if err != api.OK {
		return nil, nil, err
	}
	to, err := path.Split(c.To)
	if err != api.OK {
		return nil, nil, err
	}
	return from, to, api.OK
}
