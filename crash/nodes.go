package crash

import (
	"iter"
	"slices"

	"lockgate/api"
)

// slots goes over the slots in use of all nodes: the name, the inode that it names.
func slots(l []api.Node) iter.Seq2[name, int] {
	return func(yield func(name, int) bool) {
		for _, n := range l {
			for _, e := range n.Slots {
				if e.Ino != 0 && !yield(name{n.Ino, e.Name}, e.Ino) {
					return
				}
			}
		}
	}
}

// moved is a list in which an inode stands last, and nowhere else.
func moved(l []int, ino int) []int {
	out := slices.DeleteFunc(slices.Clone(l), func(other int) bool { return other == ino })
	return append(out, ino)
}

// whole is a block's bytes as a value: those that are missing are 0, those behind a block are left out.
func whole(b []byte) string {
	var block [api.Block]byte
	copy(block[:], b)
	return string(block[:])
}
