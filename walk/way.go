package walk

import (
	"iter"

	"lockgate/anew"
	"lockgate/api"
	"lockgate/path"
)

// Find is the place in l of the node to which a path leads.
func Find(l []api.Node, s string) (int, api.Errno) {
	parts, err := path.Split(s)
	if err != api.OK {
		return 0, err
	}
	at := 0
	for at, err = range way(l, parts) {
	}
	return at, err
}

// way goes over the places of the nodes on the way down from the root, part by part; where it goes on no further, the error is told last.
func way(l []api.Node, parts []string) iter.Seq2[int, api.Errno] {
	return func(yield func(int, api.Errno) bool) {
		places := anew.Places(l)
		at, err := placed(places, api.Root)
		for _, part := range parts {
			if err != api.OK {
				break
			}
			if !yield(at, api.OK) {
				return
			}
			if l[at].Kind != api.Dir {
				at, err = 0, api.ErrNotDir
				break
			}
			at, err = placed(places, named(l[at], part))
		}
		yield(at, err)
	}
}

// placed is the place of an inode's node; a node of Ino 0 is none that can be named.
func placed(places map[int]int, ino int) (int, api.Errno) {
	at, ok := places[ino]
	if !ok || ino == 0 {
		return 0, api.ErrNone
	}
	return at, api.OK
}

// named is the inode that a directory's slots name so; 0: none of them does.
func named(dir api.Node, name string) int {
	for _, e := range dir.Slots {
		if e.Ino != 0 && e.Name == name {
			return e.Ino
		}
	}
	return 0
}
