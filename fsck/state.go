package fsck

import (
	"bytes"
	"errors"

	"lockgate/api"
	"lockgate/bits"
	"lockgate/dinode"
	"lockgate/entry"
	"lockgate/geom"
	"lockgate/rules"
	"lockgate/super"
)

var (
	errUnusable = errors.New("fsck: the image is not usable")
	errPower    = errors.New("fsck: the disk has no power")
	errPack     = errors.New("fsck: what was kept has no bytes")
)

const perByte = 8 // bits

// state is what the passes share. The image stays as it was until all is taken in (but for a new root's block): only then the last passes write it.
type state struct {
	g       api.Geometry
	image   []byte
	inodes  []api.Inode // as read, by number
	claimed []int       // of each data block: 1, if an inode that was taken in has it
	nodes   []*node     // by number; nil: not taken in
	dirs    []*node     // in the order in which they were taken in
}

func begin(image []byte) *state {
	g, ok := rules.Usable(image)
	if !ok {
		panic(errUnusable)
	}
	s := &state{
		g:       g,
		image:   bytes.Clone(image),
		inodes:  make([]api.Inode, geom.Inodes(g)+1),
		claimed: make([]int, geom.Blocks(g)),
		nodes:   make([]*node, geom.Inodes(g)+1),
	}
	for ino := range s.inodes {
		if b, ok := s.inodeBytes(ino); ok {
			// Beside an error stands the zero inode, which is a Free one: as what a refused one is taken for.
			s.inodes[ino], _ = dinode.Read(b)
		}
	}
	return s
}

// passes are what makes a file system of the image, one behind the other.
func passes(s *state) []func() {
	eachTaken := func(do func(*node)) func() {
		return func() {
			for _, n := range s.nodes {
				if n != nil {
					do(n)
				}
			}
		}
	}
	goOverAll := func() {
		for at := 0; at < len(s.dirs); at++ { // the list grows meanwhile
			s.goOver(s.dirs[at])
		}
	}
	writeInodes := func() {
		for ino := range s.nodes {
			s.writeInode(ino)
		}
	}
	writeHeads := func() {
		for group := range s.g.Groups {
			s.writeHead(group)
		}
	}
	return []func(){s.takeRoot, goOverAll, eachTaken(s.writeTables), eachTaken(s.writeEntries), writeInodes, writeHeads}
}

// inodeBytes is the place of an inode's bytes in the image.
func (s *state) inodeBytes(ino int) ([]byte, bool) {
	block, at, ok := geom.InodeAt(s.g, ino)
	if !ok {
		return nil, false
	}
	return blockOf(s.image, block)[at : at+api.InodeSize], true
}

func (s *state) write(block int, b []byte, err api.Errno) {
	if err != api.OK {
		panic(errPack)
	}
	copy(blockOf(s.image, block), b)
}

func (s *state) writeTables(n *node) {
	for p := range n.pointers(s.image) {
		if !p.last && *p.to != 0 {
			b, err := dinode.PackPointers(n.tables[*p.to])
			s.write(*p.to, b, err)
		}
	}
}

func (s *state) writeEntries(n *node) {
	for k, block := range n.blocks() {
		b, err := entry.PackBlock(n.entries[k*api.PerDir : (k+1)*api.PerDir])
		s.write(block, b, err)
	}
}

func (s *state) writeInode(ino int) {
	place, ok := s.inodeBytes(ino)
	if !ok {
		return
	}
	var i api.Inode // one that was not taken in is Free
	if n := s.nodes[ino]; n != nil {
		i = n.inode
	}
	b, err := dinode.Pack(i)
	if err != api.OK {
		panic(errPack)
	}
	copy(place, b)
}

func (s *state) writeHead(group int) {
	inodes := row(s.g.Inodes*api.PerInodes, func(at int) bool {
		return s.nodes[group*s.g.Inodes*api.PerInodes+at+api.Root] != nil
	})
	data := row(s.g.Data, func(at int) bool {
		return s.claimed[group*s.g.Data+at] != 0
	})
	block, _ := geom.Head(s.g, group)
	b, err := super.Head(s.g, group, inodes, data)
	s.write(block, b, err)
}

// row is a row of n bits, in bytes.
func row(n int, on func(int) bool) []byte {
	b := make([]byte, (n+perByte-1)/perByte)
	for at := range n {
		if on(at) {
			b = bits.With(b, at, true)
		}
	}
	return b
}
