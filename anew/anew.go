// Package anew looks the nodes of a tree up, and numbers them anew. It stands beside the layers: those that read and go over trees share it.
package anew

import (
	"slices"

	"lockgate/api"
)

// Places are the places of nodes in a list, by their inodes: of several of one inode the first.
func Places(l []api.Node) map[int]int {
	places := make(map[int]int, len(l))
	for k, n := range slices.Backward(l) {
		places[n.Ino] = k
	}
	return places
}

// Number numbers the nodes that are reached from the root in the order in which they are reached, and tells them so: the root is the first one, then come those that its slots name, then those that theirs do. A slot that names none is free then. It writes into the slots of l.
func Number(l []api.Node) []api.Node {
	places := Places(l)
	root, ok := places[api.Root]
	if !ok {
		return nil
	}
	row, numbers := []int{root}, map[int]int{api.Root: api.Root}
	var out []api.Node
	for at := 0; at < len(row); at++ { // the row grows meanwhile
		n := l[row[at]]
		n.Ino = api.Root + at
		for k, e := range n.Slots {
			place, ok := places[e.Ino]
			if e.Ino == 0 || !ok {
				n.Slots[k] = api.Entry{}
				continue
			}
			if numbers[e.Ino] == 0 {
				numbers[e.Ino] = api.Root + len(row)
				row = append(row, place)
			}
			n.Slots[k].Ino = numbers[e.Ino]
		}
		out = append(out, n)
	}
	return out
}
