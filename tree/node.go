package tree

import (
	"bytes"
	"maps"
	"slices"

	"lockgate/api"
	"lockgate/bmap"
)

const dots = 2 // entries of a directory ahead of its slots

// node is a file or a directory.
type node struct {
	kind, links, size int
	blocks            map[int][]byte // a file's, by their numbers within it; those that are missing are holes
	slots             []slot         // a directory's, behind the dots: all that its blocks have
	places            map[string]int // of the slots in use, by name
}

// slot is a name of a directory, and what it names; nil: the slot is free.
type slot struct {
	name string
	node *node
}

func newFile() *node {
	return &node{kind: api.File, links: 1, blocks: map[int][]byte{}}
}

func newDir() *node {
	return &node{kind: api.Dir, links: 2, size: api.Block, slots: make([]slot, api.PerDir-dots), places: map[string]int{}}
}

// nodeOf is a node as it was told, whose slots are all free.
func nodeOf(told api.Node) *node {
	if told.Kind == api.Dir {
		n := newDir()
		n.links, n.size, n.slots = told.Links, told.Size, make([]slot, len(told.Slots))
		return n
	}
	n := newFile()
	n.links, n.size = told.Links, told.Size
	for _, p := range told.Blocks {
		n.blocks[p.At] = bytes.Clone(p.Data)
	}
	return n
}

// name gives the names of slots as they were told to a directory whose slots are all free.
func (n *node) name(told []api.Entry, nodes map[int]*node) {
	for at, e := range told {
		if e.Ino != 0 {
			n.slots[at] = slot{e.Name, nodes[e.Ino]}
			n.places[e.Name] = at
		}
	}
}

// look finds what a name of a directory names.
func (n *node) look(name string) (*node, bool) {
	at, ok := n.places[name]
	if !ok {
		return nil, false
	}
	return n.slots[at].node, true
}

// firstFree is the first free slot of a directory; behind its slots, if none is.
func (n *node) firstFree() int {
	for at, s := range n.slots {
		if s.node == nil {
			return at
		}
	}
	return len(n.slots)
}

// growth tells how many data blocks a directory takes for one name more.
func (n *node) growth() int {
	if n.firstFree() < len(n.slots) {
		return 0
	}
	has := n.numbers()
	return room(append(has, len(has))) - room(has)
}

// add gives a name that a directory has not yet its first free slot.
func (n *node) add(name string, named *node) {
	at := n.firstFree()
	if at == len(n.slots) {
		n.slots = append(n.slots, make([]slot, api.PerDir)...)
		n.size += api.Block
	}
	n.slots[at] = slot{name, named}
	n.places[name] = at
}

// put lets a name that a directory has name another node.
func (n *node) put(name string, named *node) {
	n.slots[n.places[name]].node = named
}

// remove frees the slot of a name that a directory has.
func (n *node) remove(name string) {
	n.slots[n.places[name]] = slot{}
	delete(n.places, name)
}

// numbers are those of the blocks that a node has, rising.
func (n *node) numbers() []int {
	if n.kind == api.File {
		return slices.Sorted(maps.Keys(n.blocks))
	}
	var out []int
	for at := range n.size / api.Block {
		out = append(out, at)
	}
	return out
}

// room tells how many data blocks a node of these blocks takes.
func room(numbers []int) int {
	return len(numbers) + bmap.Meta(numbers)
}

// told is the node as it is told, by the numbers of all nodes.
func (n *node) told(numbers map[*node]int) api.Node {
	out := api.Node{Ino: numbers[n], Kind: n.kind, Links: n.links, Size: n.size}
	for _, s := range n.slots {
		out.Slots = append(out.Slots, api.Entry{Ino: numbers[s.node], Name: s.name}) // a free slot's node has no number: 0
	}
	if n.kind == api.File {
		for _, at := range n.numbers() {
			out.Blocks = append(out.Blocks, api.Part{At: at, Data: bytes.Clone(n.blocks[at])})
		}
	}
	return out
}

// copied is the same node in new memory; its slots still name the nodes that they named.
func (n *node) copied() *node {
	out := *n
	out.slots = slices.Clone(n.slots)
	out.places = maps.Clone(n.places)
	out.blocks = maps.Clone(n.blocks)
	for at, b := range n.blocks {
		out.blocks[at] = bytes.Clone(b)
	}
	return &out
}
