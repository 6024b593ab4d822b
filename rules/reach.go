package rules

import (
	"lockgate/api"
	"lockgate/bmap"
	"lockgate/entry"
	"lockgate/geom"
)

// reach is what the names lead to, from Root on.
type reach struct {
	*view
	inodes map[int]api.Inode // those that are reached and can be read, by number
	named  map[int]int       // how many entries name an inode, each block's counted once
	astray bool              // a name leads to what is no inode, cannot be read, or is Free
	dirs   []api.Inode       // in the order in which they were reached
	gone   []bool            // of each block: were its entries gone over?
}

func (v *view) reach() *reach {
	r := &reach{view: v, inodes: map[int]api.Inode{}, named: map[int]int{}, gone: make([]bool, geom.Total(v.g))}
	r.arrive(api.Root)
	for at := 0; at < len(r.dirs); at++ { // the list grows meanwhile
		r.goOver(r.dirs[at])
	}
	return r
}

func (r *reach) arrive(ino int) {
	if _, ok := r.inodes[ino]; ok {
		return
	}
	i, ok := r.inode(ino)
	if !ok || i.Kind == api.Free {
		r.astray = true
	}
	if !ok {
		return
	}
	r.inodes[ino] = i
	if i.Kind == api.Dir {
		r.dirs = append(r.dirs, i)
	}
}

func (r *reach) goOver(dir api.Inode) {
	end := bmap.Count(dir.Size)
	for p := range r.pointers(dir) {
		if p.first >= end {
			break
		}
		if p.level == direct && r.isData(p.to) {
			r.names(p.to)
		}
	}
}

// names goes to where a block's entries lead. A second time nothing new would be reached, and it might be the millionth of a wrong image.
func (r *reach) names(block int) {
	if r.gone[block] {
		return
	}
	r.gone[block] = true
	for _, e := range entry.Block(r.block(block)) {
		if e.Ino != 0 {
			r.named[e.Ino]++
			r.arrive(e.Ino)
		}
	}
}
