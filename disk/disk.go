// Package disk is layer 1: a disk of sectors whose power may fail.
package disk

import (
	"bytes"
	"iter"
	"slices"

	"lockgate/api"
)

const (
	maxBlocks = 20000
	perBlock  = api.Block / api.Sector
)

// Disk is a disk: its bytes, all that was written to it, and its power.
type Disk struct {
	image []byte
	log   []api.Write
	dead  bool
	cut   bool // whether a Cut is set: so the zero Disk has none
	left  int  // if so: how many sectors are still written ahead of it
}

// New makes a disk of that many blocks of zeros, of none at least and of maxBlocks at most.
func New(blocks int) *Disk {
	return &Disk{image: make([]byte, min(max(blocks, 0), maxBlocks)*api.Block)}
}

// Of makes a disk of an image's whole blocks, of the first maxBlocks at most.
func Of(image []byte) *Disk {
	d := New(len(image) / api.Block)
	copy(d.image, image)
	return d
}

// Blocks tells how many blocks the disk has.
func (d *Disk) Blocks() int { return len(d.image) / api.Block }

// Read tells a block's bytes; nil, false if there is no such block or no power.
func (d *Disk) Read(block int) ([]byte, bool) {
	if !d.has(block) || d.dead {
		return nil, false
	}
	return bytes.Clone(d.image[block*api.Block : (block+1)*api.Block]), true
}

// Write writes a block sector by sector; false if it is refused or the power fails on the way.
func (d *Disk) Write(block int, b []byte) bool {
	if !d.has(block) || len(b) != api.Block || d.dead {
		return false
	}
	for sector, data := range sectorsOf(block, b) {
		if !d.powered() {
			return false
		}
		d.put(sector, data)
	}
	return true
}

// Cut lets the power fail ahead of the sector behind that many more; below 0 it never fails.
func (d *Disk) Cut(sectors int) {
	d.cut, d.left = sectors >= 0, max(sectors, 0)
}

// Start gives power again, and takes a Cut back.
func (d *Disk) Start() {
	d.dead, d.cut, d.left = false, false, 0
}

// Dead tells whether the power has failed.
func (d *Disk) Dead() bool { return d.dead }

// Log tells all sectors that were written, in order.
func (d *Disk) Log() []api.Write {
	return slices.AppendSeq(make([]api.Write, 0, len(d.log)), d.written())
}

// Image tells all bytes of the disk, with power or without.
func (d *Disk) Image() []byte { return bytes.Clone(d.image) }

func (d *Disk) has(block int) bool { return block >= 0 && block < d.Blocks() }

// powered asks for the power of one more sector. A Cut strikes only here, not when it is set,
// so that a later Cut can still take its place.
func (d *Disk) powered() bool {
	if !d.cut {
		return true
	}
	if d.left == 0 {
		d.dead = true
		return false
	}
	d.left--
	return true
}

func (d *Disk) put(sector int, data []byte) {
	copy(d.image[sector*api.Sector:], data)
	d.log = append(d.log, api.Write{Sector: sector, Data: bytes.Clone(data)})
}

// sectorsOf goes over the sectors of a block, by their numbers on the disk: the order in which they are written.
func sectorsOf(block int, b []byte) iter.Seq2[int, []byte] {
	return func(yield func(int, []byte) bool) {
		for i := range perBlock {
			from, to := i*api.Sector, (i+1)*api.Sector
			if !yield(block*perBlock+i, b[from:to:to]) {
				return
			}
		}
	}
}

// written goes over copies of the log: who is told of a sector may change its bytes.
func (d *Disk) written() iter.Seq[api.Write] {
	return func(yield func(api.Write) bool) {
		for _, w := range d.log {
			if !yield(api.Write{Sector: w.Sector, Data: bytes.Clone(w.Data)}) {
				return
			}
		}
	}
}
