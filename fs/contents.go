package fs

import (
	"lockgate/api"
	"lockgate/patch"
)

// contents are the bytes of a file's block, in new memory; of a hole they are 0.
func (f *FS) contents(ino, n int) []byte {
	b := make([]byte, api.Block)
	if block := f.at(f.inode(ino), n); block != 0 {
		copy(b, f.block(block))
	}
	return b
}

// setContents gives a file's block bytes, and tells the changes behind which it has them on the disk. At every moment it has there bytes that it had in memory between two calls, or it is a hole.
func (f *FS) setContents(ino, n int, b []byte) []int {
	block := f.at(f.inode(ino), n)
	if block == 0 {
		fresh, there := f.freshBlock(ino, b, nil)
		return f.point(ino, n, fresh, there)
	}
	at, end := unlikeSectors(f.block(block), b)
	if at == end {
		return nil
	}
	if f.isAtOnce(block, at, end-at) {
		return f.put(block, at, b[at:end:end], nil)
	}
	return f.renew(ino, n, block, b)
}

// unlikeSectors are the bounds of the sectors in which two blocks are unlike.
func unlikeSectors(was, b []byte) (int, int) {
	runs := patch.Diff(was, b)
	if len(runs) == 0 {
		return 0, 0
	}
	last := runs[len(runs)-1]
	end := last.At + len(last.New)
	return runs[0].At / api.Sector * api.Sector, (end + api.Sector - 1) / api.Sector * api.Sector
}

// isAtOnce tells whether a file's block on the disk may get all these bytes where it stands: they come with what is left of it, or they are one sector's, and nothing is left. Else the power might fail between two sectors, and leave bytes that the block never had.
//
// What is left of a whole block is what a pointer to it waits for: nobody sees the block half written.
func (f *FS) isAtOnce(block, at, n int) bool {
	left := f.left[block]
	if len(left) == 0 {
		return n <= api.Sector
	}
	return left[len(left)-1].where.covers(bytesFrom(at, n))
}

// renew gives a file's block bytes by a fresh data block in the place of the old one. If there is no room it is a hole while the old one is written.
func (f *FS) renew(ino, n, block int, b []byte) []int {
	if fresh, there, ok := f.tryBlock(ino, b, nil); ok {
		leads := f.point(ino, n, fresh, there)
		f.giveBlocks([]int{block}, leads)
		return leads
	}
	hole := f.point(ino, n, 0, nil)
	return f.point(ino, n, block, f.put(block, 0, b, hole))
}
