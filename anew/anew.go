// Package anew numbers the nodes of a tree anew. It stands beside the layers: those that read and go over trees share it.
package anew

import (
	"slices"

	"lockgate/api"
)

// Number numbers the nodes that are reached from the root in the order in which they are reached, and tells them so: the root is the first one, then come those that its slots name, then those that theirs do. A slot that names none is free then. It writes into the slots of l.
func Number(l []api.Node) []api.Node {
	places := map[int]int{} // in l, by inode: of several of one inode the first
	for k, n := range slices.Backward(l) {
		places[n.Ino] = k
	}
	root, ok := places[api.Root]
	if !ok {
		return nil
	}
	row, numbers := []int{root}, map[int]int{api.Root: api.Root}
	var out []api.Node
	for at := 0; at < len(row); at++ { // the row grows meanwhile
		n := l[row[at]]
		n.Ino = api.Root + at
		for k, e := range n.Slots {
			place, ok := places[e.Ino]
			if e.Ino == 0 || !ok {
				n.Slots[k] = api.Entry{}
				continue
			}
			if numbers[e.Ino] == 0 {
				numbers[e.Ino] = api.Root + len(row)
				row = append(row, place)
			}
			n.Slots[k].Ino = numbers[e.Ino]
		}
		out = append(out, n)
	}
	return out
}
