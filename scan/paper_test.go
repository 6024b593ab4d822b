package scan

import (
	"bytes"
	"testing"

	"lockgate/api"
	"lockgate/dinode"
	"lockgate/entry"
	"lockgate/fsck"
	"lockgate/geom"
	"lockgate/mkfs"
	"lockgate/rules"
	"lockgate/super"
)

// small has inodes 1 to 16 in block 2, and the data blocks 3 to 42.
var small = api.Geometry{Groups: 1, Inodes: 1, Data: 40}

// large is as large as a disk may be.
var large = api.Geometry{Groups: api.MaxGroups, Inodes: api.MaxIB, Data: api.MaxData}

// paper is an image on which a test draws.
type paper struct {
	t     testing.TB
	g     api.Geometry
	image []byte
}

func empty(t testing.TB, g api.Geometry) *paper {
	t.Helper()
	image, err := mkfs.Image(g)
	if err != api.OK {
		t.Fatal(err)
	}
	return &paper{t, g, image}
}

func (p *paper) copy() *paper { return &paper{p.t, p.g, bytes.Clone(p.image)} }

func (p *paper) put(at int, b []byte, err api.Errno) {
	p.t.Helper()
	if err != api.OK {
		p.t.Fatal(err)
	}
	copy(p.image[at:], b)
}

func (p *paper) inode(ino int, i api.Inode) *paper {
	p.t.Helper()
	block, at, _ := geom.InodeAt(p.g, ino)
	b, err := dinode.Pack(i)
	p.put(block*1024+at, b, err)
	return p
}

func (p *paper) table(block int, l ...int) *paper {
	p.t.Helper()
	b, err := dinode.PackPointers(l)
	p.put(block*1024, b, err)
	return p
}

func (p *paper) entries(block int, l ...api.Entry) *paper {
	p.t.Helper()
	b, err := entry.PackBlock(l)
	p.put(block*1024, b, err)
	return p
}

func (p *paper) fill(block int, x byte) *paper {
	p.put(block*1024, bytes.Repeat([]byte{x}, 1024), api.OK)
	return p
}

// turn turns one bit.
func (p *paper) turn(block, at int) *paper {
	p.image[block*1024+at] ^= 1
	return p
}

// used writes the heads: these inodes and these blocks are in use, no others.
func (p *paper) used(inodes, blocks []int) *paper {
	for group := range p.g.Groups {
		rows := [2][]byte{make([]byte, 8), make([]byte, 125)}
		for _, ino := range inodes {
			if at := ino - 1 - group*p.g.Inodes*16; at >= 0 && at < p.g.Inodes*16 {
				rows[0][at/8] |= 1 << (at % 8)
			}
		}
		head := 1 + group*(1+p.g.Inodes+p.g.Data)
		for _, block := range blocks {
			if at := block - head - 1 - p.g.Inodes; at >= 0 && at < p.g.Data {
				rows[1][at/8] |= 1 << (at % 8)
			}
		}
		b, err := super.Head(p.g, group, rows[0], rows[1])
		p.put(head*1024, b, err)
	}
	return p
}

// has holds both calls against a number of faults (-1: not usable), and what they promise beside it.
func (p *paper) has(want int) {
	p.t.Helper()
	room := append(bytes.Clone(p.image), 1, 2, 3) // the spare room of what is handed in
	given := room[:len(p.image)]
	for range 2 {
		if got := Faults(given); got != want {
			p.t.Fatalf("Faults: %d, must be %d", got, want)
		}
		if got := Clean(given); got != (want == 0) {
			p.t.Fatalf("Clean: %v, of %d faults", got, want)
		}
	}
	if !bytes.Equal(given, p.image) || !bytes.Equal(room[len(given):], []byte{1, 2, 3}) {
		p.t.Fatal("what was handed in was changed")
	}
	fixed, unlike, ok := fsck.Repair(given)
	if ok != (want >= 0) || len(unlike) != max(want, 0) {
		p.t.Fatalf("the repair writes %v (%v), must be %d blocks", unlike, ok, want)
	}
	if ok && (Faults(fixed) != 0 || !Clean(fixed) || rules.Check(fixed) != 0) {
		p.t.Fatalf("repaired: %d faults, rule %d", Faults(fixed), rules.Check(fixed))
	}
	if rule := rules.Check(given); want == 0 && rule != 0 || (want < 0) != (rule == 1) {
		p.t.Fatalf("%d faults, rule %d", want, rule)
	}
}

// asRepaired is what Faults must tell: how many blocks the repair writes.
func (p *paper) asRepaired() int {
	_, unlike, ok := fsck.Repair(p.image)
	if !ok {
		return -1
	}
	return len(unlike)
}

func dir(links, size int, blocks ...int) api.Inode {
	i := api.Inode{Kind: api.Dir, Links: links, Size: size}
	copy(i.Direct[:], blocks)
	return i
}

func file(links, size int, blocks ...int) api.Inode {
	i := dir(links, size, blocks...)
	i.Kind = api.File
	return i
}

// tables gives an inode a Single and a Double.
func tables(i api.Inode, single, double int) api.Inode {
	i.Single, i.Double = single, double
	return i
}

func to(ino int, name string) api.Entry { return api.Entry{Ino: ino, Name: name} }

// names are the entries of a directory: its dots, and the others.
func names(ino, parent int, l ...api.Entry) []api.Entry {
	return append([]api.Entry{to(ino, "."), to(parent, "..")}, l...)
}
