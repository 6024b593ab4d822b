package fs

import (
	"bytes"

	"lockgate/api"
)

const perBlock = api.Block / api.Sector // sectors

// change is a sector's bytes from a moment on. All changes come to the disk in the order in which they were made: so the disk always is as the image was at some moment, and who changes the image need only see to it that at each of its moments all holds that must.
type change struct {
	sector int
	data   []byte
}

// block is a block as it will be.
func (f *FS) block(n int) []byte {
	from, end := n*api.Block, (n+1)*api.Block
	return f.image[from:end:end]
}

// put puts bytes into a block from a place on, the first sector first.
func (f *FS) put(block, at int, b []byte) {
	for at += block * api.Block; len(b) > 0; {
		sector := at / api.Sector
		n := min(len(b), (sector+1)*api.Sector-at)
		f.putSector(sector, at%api.Sector, b[:n])
		at, b = at+n, b[n:]
	}
}

func (f *FS) putSector(sector, at int, b []byte) {
	place := f.image[sector*api.Sector : (sector+1)*api.Sector]
	if bytes.Equal(place[at:at+len(b)], b) {
		return
	}
	copy(place[at:], b)
	// A sector is written whole: of changes that are side by side in the row the last one has all of them.
	if last := f.row.last(); last != nil && last.sector == sector {
		last.data = bytes.Clone(place)
		return
	}
	f.row.push(change{sector, bytes.Clone(place)})
}

// Left tells how many changes are not on the disk yet.
func (f *FS) Left() int { return len(f.row.list) }

// Step writes a block with the first changes of the row, as many as one write can bring in their order; false: there was none, or the power failed.
func (f *FS) Step() bool {
	if f.Left() == 0 {
		return false
	}
	block := f.row.list[0].sector / perBlock
	b, ok := f.d.Read(block)
	if !ok {
		return false
	}
	n := 0
	for at := block * perBlock; n < f.Left(); n++ {
		c := f.row.list[n]
		if c.sector < at || c.sector/perBlock != block {
			break
		}
		at = c.sector
		copy(b[at%perBlock*api.Sector:], c.data)
	}
	if !f.d.Write(block, b) {
		return false
	}
	f.row.drop(n)
	return true
}
