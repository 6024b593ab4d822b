package fs

import (
	"bytes"

	"lockgate/api"
)

// contents are the bytes of a file's block, in new memory; of a hole they are 0.
func (f *FS) contents(ino, n int) []byte {
	b := make([]byte, api.Block)
	if block := f.at(f.inode(ino), n); block != 0 {
		copy(b, f.block(block))
	}
	return b
}

// setContents gives a file's block bytes. At every moment it has either these or those that it had, or it is a hole.
func (f *FS) setContents(ino, n int, b []byte) {
	block := f.at(f.inode(ino), n)
	switch {
	case block == 0:
		f.point(ino, n, f.freshBlock(ino, b))
	case f.tears(block, b):
		f.point(ino, n, 0)
		f.put(block, 0, b)
		f.point(ino, n, block)
	default:
		f.put(block, 0, b)
	}
}

// tears tells whether the power might fail between two sectors of a block that both have other bytes than b.
func (f *FS) tears(block int, b []byte) bool {
	was := f.block(block)
	return !bytes.Equal(was[:api.Sector], b[:api.Sector]) && !bytes.Equal(was[api.Sector:], b[api.Sector:])
}
