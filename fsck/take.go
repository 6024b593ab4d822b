package fsck

import (
	"lockgate/api"
	"lockgate/bmap"
	"lockgate/entry"
	"lockgate/geom"
)

const (
	dots     = 2 // the entries of a directory that name it and its parent
	dirLinks = 2 // of a directory without directories
)

func (s *state) takeRoot() {
	root := s.inodes[api.Root]
	_, ok := geom.DataOf(s.g, root.Direct[0])
	if root.Kind != api.Dir || root.Size < api.Block || !ok {
		first, _ := geom.Data(s.g, 0)
		clear(blockOf(s.image, first))
		s.inodes[api.Root] = api.Inode{Kind: api.Dir, Size: api.Block, Direct: [api.Direct]int{first}}
	}
	s.take(api.Root, api.Root)
}

// take takes an inode in; false: it is a directory that cannot be.
func (s *state) take(ino, parent int) bool {
	n := &node{ino: ino, inode: s.inodes[ino], tables: map[int][]int{}}
	n.inode.Size, n.inode.Links = min(n.inode.Size, api.MaxSize), 0
	dir := n.inode.Kind == api.Dir
	if dir {
		n.inode.Size -= n.inode.Size % api.Block
		n.inode.Links, n.parent = dirLinks, parent
	}
	limit := bmap.Count(n.inode.Size)
	// A directory without a first block goes ahead of its other pointers: it would claim nothing, and many entries may name it.
	if dir && !s.mayClaim(n.inode.Direct[0], 0, limit) {
		return false
	}
	s.keepPointers(n, limit)
	s.nodes[ino] = n
	if dir {
		s.trim(n)
		s.readEntries(n)
		s.dirs = append(s.dirs, n)
	}
	return true
}

// mayClaim tells whether a pointer is kept that leads to the file's block first and on, of a file of that many blocks.
func (s *state) mayClaim(block, first, limit int) bool {
	data, ok := geom.DataOf(s.g, block)
	return ok && s.claimed[data] == 0 && first < limit
}

func (s *state) mark(block, on int) {
	data, _ := geom.DataOf(s.g, block)
	s.claimed[data] = on
}

func (s *state) keepPointers(n *node, limit int) {
	for p := range n.pointers(s.image) {
		if !s.mayClaim(*p.to, p.first, limit) {
			*p.to = 0
			continue
		}
		s.mark(*p.to, 1)
		n.claims = append(n.claims, claim{block: *p.to, first: p.first, last: p.last})
	}
}

// trim ends a directory ahead of its first hole.
func (s *state) trim(n *node) {
	whole := 0
	for _, c := range n.claims {
		if c.last && c.first == whole {
			whole++
		}
	}
	n.inode.Size = whole * api.Block
	var stay []claim
	for _, c := range n.claims {
		if c.first < whole {
			stay = append(stay, c)
			continue
		}
		s.mark(c.block, 0)
		// Of a block of pointers nothing will be written: kept, those of many directories would be more than the disk has bytes.
		delete(n.tables, c.block)
	}
	n.claims = stay
	for p := range n.pointers(s.image) {
		if p.first >= whole {
			*p.to = 0
		}
	}
}

func (s *state) readEntries(n *node) {
	for _, block := range n.blocks() {
		n.entries = append(n.entries, entry.Block(blockOf(s.image, block))...)
	}
}

// goOver frees the entries of a directory that can't be, and takes in what the others name.
func (s *state) goOver(n *node) {
	n.entries[0] = api.Entry{Ino: n.ino, Name: "."}
	n.entries[1] = api.Entry{Ino: n.parent, Name: ".."}
	names := map[string]int{".": 0, "..": 1} // where each stands
	for k, e := range n.slots() {
		if _, twice := names[e.Name]; twice || !s.stays(n, e.Ino) {
			n.entries[k] = api.Entry{}
			continue
		}
		names[e.Name] = k
	}
}

// stays tells whether an entry of a directory may name that inode, which is counted and taken in then.
func (s *state) stays(in *node, ino int) bool {
	if ino >= len(s.inodes) {
		return false
	}
	switch s.inodes[ino].Kind {
	case api.File:
		return s.linkFile(ino)
	case api.Dir:
		return s.linkDir(in, ino)
	}
	return false
}

func (s *state) linkFile(ino int) bool {
	if s.nodes[ino] == nil {
		s.take(ino, 0)
	}
	i := &s.nodes[ino].inode
	if i.Links == api.MaxLinks {
		return false
	}
	i.Links++
	return true
}

func (s *state) linkDir(in *node, ino int) bool {
	if s.nodes[ino] != nil || in.inode.Links == api.MaxLinks || !s.take(ino, in.ino) {
		return false
	}
	in.inode.Links++
	return true
}
