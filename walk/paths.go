package walk

import (
	"iter"

	"lockgate/anew"
	"lockgate/api"
)

// most is how many paths are told.
const most = 10000

// Paths are the paths of all slots in use, each with those within what it names behind it.
func Paths(l []api.Node) []string {
	var out []string
	for s := range down(l) {
		out = append(out, s)
		if len(out) == most {
			break
		}
	}
	return out
}

// down goes over the paths of all slots in use, from the root on.
func down(l []api.Node) iter.Seq[string] {
	return func(yield func(string) bool) {
		w := wood{l, anew.Places(l), make([]bool, len(l)), yield}
		if root, ok := w.closed(api.Root); ok {
			w.into(root, "")
		}
	}
}

// wood is a list of nodes that is gone over: where they stand, which of them were gone into, and who is told the paths.
type wood struct {
	l      []api.Node
	places map[int]int
	gone   []bool
	yield  func(string) bool
}

// closed is the place of an inode's node; false: it is no directory that could be gone into, or was gone into already.
func (w wood) closed(ino int) (int, bool) {
	at, ok := w.places[ino]
	return at, ok && w.l[at].Kind == api.Dir && !w.gone[at]
}

// into tells the paths of what is within a directory of that path; false: nobody wants more of them. A path grows with each step down, so MaxPath bounds how deep this goes.
func (w wood) into(dir int, prefix string) bool {
	w.gone[dir] = true
	for _, e := range w.l[dir].Slots {
		if e.Ino == 0 || len(prefix)+1+len(e.Name) > api.MaxPath {
			continue
		}
		s := prefix + "/" + e.Name
		if !w.yield(s) {
			return false
		}
		if at, ok := w.closed(e.Ino); ok && !w.into(at, s) {
			return false
		}
	}
	return true
}
