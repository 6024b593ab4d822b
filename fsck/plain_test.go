package fsck

import (
	"bytes"
	"testing"

	"lockgate/api"
	"lockgate/bmap"
	"lockgate/dinode"
	"lockgate/entry"
	"lockgate/geom"
	"lockgate/super"
)

// plain is a plain reading of P1802, in another shape than the program: what an inode keeps stands in a map by the place of each pointer.
type plain struct {
	t     testing.TB
	g     api.Geometry
	image []byte
	zero  int         // the block that counts as all 0; 0: none does
	owner map[int]int // of a data block that is claimed: the inode
	taken map[int]*kept
	order []int // the directories, as they were taken in, that are still to be gone over
}

// place is where a pointer stands: level, place in the upper block, place in the lower one; own (instead of a place): it is the inode's, or the Double's block's.
type place [3]int

const own = -1

type kept struct {
	inode    api.Inode // Kind, Links, Size
	parent   int
	pointers map[place]int
	entries  []api.Entry
}

// plainRepair is what Repair must make of an image; false: it is not usable.
func plainRepair(t testing.TB, image []byte) ([]byte, bool) {
	g, err := super.Read(image[:min(len(image), 1024)])
	if err != api.OK || len(image) != 1024*geom.Total(g) {
		return nil, false
	}
	p := &plain{t: t, g: g, image: image, owner: map[int]int{}, taken: map[int]*kept{}}
	p.takeAll()
	return p.written(), true
}

func (p *plain) block(n int) []byte {
	if n == p.zero {
		return make([]byte, 1024)
	}
	return p.image[n*1024 : (n+1)*1024]
}

func (p *plain) read(ino int) api.Inode {
	block, at, ok := geom.InodeAt(p.g, ino)
	if !ok {
		return api.Inode{}
	}
	i, err := dinode.Read(p.image[block*1024+at : block*1024+at+64])
	if err != api.OK {
		return api.Inode{}
	}
	return i
}

func (p *plain) takeAll() {
	root := p.read(1)
	if _, ok := geom.DataOf(p.g, root.Direct[0]); !ok || root.Kind != api.Dir || root.Size < 1024 {
		p.zero = 2 + p.g.Inodes
		root = api.Inode{Kind: api.Dir, Size: 1024, Direct: [8]int{p.zero}}
	}
	p.take(1, 1, root)
	p.order = []int{1}
	for len(p.order) > 0 {
		ino := p.order[0]
		p.order = p.order[1:]
		p.goOver(ino, p.taken[ino])
	}
}

// first is the file's first block of a pointer.
func first(at place) int {
	switch at[0] {
	case 0:
		return at[1]
	case 1:
		return 8 + max(at[1], 0)
	}
	return 8 + 256 + 256*max(at[1], 0) + max(at[2], 0)
}

func (p *plain) take(ino, parent int, i api.Inode) bool {
	size := min(i.Size, api.MaxSize)
	if i.Kind == api.Dir {
		size = size / 1024 * 1024
	}
	k := &kept{inode: api.Inode{Kind: i.Kind, Size: size}, parent: parent, pointers: map[place]int{}}
	limit := (size + 1023) / 1024
	keep := func(at place, block int) []int {
		if _, ok := geom.DataOf(p.g, block); !ok || p.owner[block] != 0 || first(at) >= limit {
			return nil
		}
		p.owner[block] = ino
		k.pointers[at] = block
		return dinode.Pointers(p.block(block))
	}
	for x, block := range i.Direct {
		keep(place{0, x, own}, block)
	}
	for x, block := range keep(place{1, own, own}, i.Single) {
		keep(place{1, x, own}, block)
	}
	for x, table := range keep(place{2, own, own}, i.Double) {
		for y, block := range keep(place{2, x, own}, table) {
			keep(place{2, x, y}, block)
		}
	}
	if i.Kind == api.Dir && !p.cut(k) {
		return false
	}
	p.taken[ino] = k
	return true
}

// placeOf is where the pointer to a file's block stands.
func placeOf(n int) place {
	level, i, j, _ := bmap.Place(n)
	if level < 2 {
		j = own
	}
	return place{level, i, j}
}

// cut ends a directory ahead of its first hole; false: it has nothing ahead of it.
func (p *plain) cut(k *kept) bool {
	m := 0
	for k.pointers[placeOf(m)] != 0 {
		k.entries = append(k.entries, entry.Block(p.block(k.pointers[placeOf(m)]))...)
		m++
	}
	k.inode.Size = m * 1024
	for x, block := range k.pointers {
		if first(x) >= m {
			delete(p.owner, block)
			delete(k.pointers, x)
		}
	}
	k.inode.Links = 2
	return m > 0
}

func (p *plain) goOver(ino int, k *kept) {
	k.entries[0], k.entries[1] = to(ino, "."), to(k.parent, "..")
	for x := 2; x < len(k.entries); x++ {
		if !p.stays(ino, k, x) {
			k.entries[x] = api.Entry{}
		}
	}
}

func (p *plain) stays(ino int, k *kept, x int) bool {
	e := k.entries[x]
	for _, ahead := range k.entries[:x] {
		if e.Name == ahead.Name {
			return false
		}
	}
	i, known := p.read(e.Ino), p.taken[e.Ino]
	if i.Kind == api.Free || e.Ino == 0 {
		return false
	}
	if i.Kind == api.File {
		if e.Ino == 1 || known == nil && !p.take(e.Ino, 0, i) || p.taken[e.Ino].inode.Links == api.MaxLinks {
			return false
		}
		p.taken[e.Ino].inode.Links++
		return true
	}
	if known != nil || k.inode.Links == api.MaxLinks || !p.take(e.Ino, ino, i) {
		return false
	}
	k.inode.Links++
	p.order = append(p.order, e.Ino)
	return true
}

// written is the image as it must be.
func (p *plain) written() []byte {
	out := &paper{p.t, p.g, bytes.Clone(p.image)}
	for ino := range geom.Inodes(p.g) + 1 {
		if block, at, ok := geom.InodeAt(p.g, ino); ok {
			clear(out.image[block*1024+at : block*1024+at+64])
		}
	}
	var inodes []int
	for ino, k := range p.taken {
		inodes = append(inodes, ino)
		k.write(out, ino)
	}
	var blocks []int
	for block := range p.owner {
		blocks = append(blocks, block)
	}
	return out.used(inodes, blocks).image
}

func (k *kept) write(to *paper, ino int) {
	i, rows := k.inode, map[int][]int{}
	row := func(at place) []int {
		block := k.pointers[at]
		if rows[block] == nil {
			rows[block] = make([]int, 256)
		}
		return rows[block]
	}
	for at, block := range k.pointers {
		switch {
		case at[0] == 0:
			i.Direct[at[1]] = block
		case at == place{1, own, own}:
			i.Single = block
			row(at)
		case at == place{2, own, own}:
			i.Double = block
			row(at)
		case at[0] == 1:
			row(place{1, own, own})[at[1]] = block
		case at[2] == own:
			row(place{2, own, own})[at[1]] = block
			row(at)
		default:
			row(place{2, at[1], own})[at[2]] = block
		}
	}
	to.inode(ino, i)
	for block, l := range rows {
		to.table(block, l...)
	}
	for n := 0; n < len(k.entries); n += 32 {
		to.entries(k.pointers[placeOf(n/32)], k.entries[n:n+32]...)
	}
}
