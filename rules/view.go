package rules

import (
	"iter"

	"lockgate/api"
	"lockgate/bmap"
	"lockgate/dinode"
	"lockgate/geom"
	"lockgate/super"
)

// Levels of pointers: how many indirect blocks lie between one and a block of the file.
const (
	direct = iota
	single
	double
)

// view is a usable image that is looked at.
type view struct {
	image []byte
	g     api.Geometry
	data  []bool        // of each block: is it a data block?
	rows  map[int][]int // pointers by indirect block: a wrong image may lead to one of them very often
}

// pointer is a pointer of an inode that is not 0.
type pointer struct {
	level int
	to    int // the block to which it leads, if there is one
	first int // the file's first block behind it
}

func look(image []byte) (*view, bool) {
	g, ok := Usable(image)
	if !ok {
		return nil, false
	}
	v := &view{image: image, g: g, data: make([]bool, geom.Total(g)), rows: map[int][]int{}}
	for n := range geom.Blocks(g) {
		block, _ := geom.Data(g, n)
		v.data[block] = true
	}
	return v, true
}

func (v *view) block(n int) []byte {
	from, end := n*api.Block, (n+1)*api.Block
	return v.image[from:end:end]
}

func (v *view) isData(block int) bool { return block < len(v.data) && v.data[block] }

// inode reads an inode; false if there is none of that number, or its bytes are refused.
func (v *view) inode(ino int) (api.Inode, bool) {
	block, at, ok := geom.InodeAt(v.g, ino)
	if !ok {
		return api.Inode{}, false
	}
	i, err := dinode.Read(v.block(block)[at : at+api.InodeSize])
	return i, err == api.OK
}

// marks are the bits of the data blocks, by group.
func (v *view) marks() [][]byte {
	out := make([][]byte, v.g.Groups)
	for group := range out {
		head, _ := geom.Head(v.g, group)
		_, out[group] = super.Bits(v.g, v.block(head))
	}
	return out
}

// pointers goes over an inode's pointers that are not 0, down the levels: each comes ahead of those in the block to which it leads, so that the first blocks of the file behind them never fall.
func (v *view) pointers(i api.Inode) iter.Seq[pointer] {
	return func(yield func(pointer) bool) {
		for k, to := range i.Direct {
			first, _ := bmap.First(direct, k)
			if !v.down(pointer{direct, to, first}, yield) {
				return
			}
		}
		for k, to := range []int{i.Single, i.Double} {
			first, _ := bmap.First(single+k, 0)
			if !v.down(pointer{single + k, to, first}, yield) {
				return
			}
		}
	}
}

// down tells a pointer and those below it; false: no more of them are asked for.
func (v *view) down(p pointer, yield func(pointer) bool) bool {
	if p.to == 0 {
		return true
	}
	if !yield(p) {
		return false
	}
	if p.level == direct || !v.isData(p.to) {
		return true
	}
	step := 1
	if p.level == double {
		step = api.PerBlock
	}
	for k, to := range v.row(p.to) {
		if !v.down(pointer{p.level - 1, to, p.first + k*step}, yield) {
			return false
		}
	}
	return true
}

// row are the pointers in an indirect block.
func (v *view) row(block int) []int {
	if _, ok := v.rows[block]; !ok {
		v.rows[block] = dinode.Pointers(v.block(block))
	}
	return v.rows[block]
}
