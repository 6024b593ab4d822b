package reader

import (
	"bytes"
	"testing"

	"lockgate/api"
	"lockgate/dinode"
	"lockgate/entry"
	"lockgate/fsck"
	"lockgate/geom"
	"lockgate/mkfs"
)

// small has inodes 1 to 16 in block 2, and the data blocks 3 to 42.
var small = api.Geometry{Groups: 1, Inodes: 1, Data: 40}

// middle has the data blocks 3 to 702.
var middle = api.Geometry{Groups: 1, Inodes: 1, Data: 700}

// large is as large as a disk may be.
var large = api.Geometry{Groups: api.MaxGroups, Inodes: api.MaxIB, Data: api.MaxData}

// paper is an image on which a test draws.
type paper struct {
	t     testing.TB
	g     api.Geometry
	image []byte
}

func empty(t testing.TB, g api.Geometry) *paper {
	t.Helper()
	image, err := mkfs.Image(g)
	if err != api.OK {
		t.Fatal(err)
	}
	return &paper{t, g, image}
}

func (p *paper) put(at int, b []byte, err api.Errno) {
	p.t.Helper()
	if err != api.OK {
		p.t.Fatal(err)
	}
	copy(p.image[at:], b)
}

func (p *paper) inode(ino int, i api.Inode) *paper {
	p.t.Helper()
	block, at, ok := geom.InodeAt(p.g, ino)
	if !ok {
		p.t.Fatalf("no inode %d", ino)
	}
	b, err := dinode.Pack(i)
	p.put(block*1024+at, b, err)
	return p
}

func (p *paper) table(block int, l ...int) *paper {
	p.t.Helper()
	b, err := dinode.PackPointers(l)
	p.put(block*1024, b, err)
	return p
}

func (p *paper) entries(block int, l ...api.Entry) *paper {
	p.t.Helper()
	b, err := entry.PackBlock(l)
	p.put(block*1024, b, err)
	return p
}

// fill gives a block bytes that no other block has.
func (p *paper) fill(block int) *paper {
	p.put(block*1024, filled(block), api.OK)
	return p
}

// data is the n-th data block.
func (p *paper) data(n int) int {
	p.t.Helper()
	block, ok := geom.Data(p.g, n)
	if !ok {
		p.t.Fatalf("no data block %d", n)
	}
	return block
}

// marked writes the heads. A repair does it, which must find nothing else to write.
func (p *paper) marked() *paper {
	p.t.Helper()
	fixed, unlike, _ := fsck.Repair(p.image)
	heads := map[int]int{}
	for group := range p.g.Groups {
		block, _ := geom.Head(p.g, group)
		heads[block]++
	}
	for _, block := range unlike {
		if heads[block] == 0 {
			p.t.Fatalf("block %d is no file system's", block)
		}
	}
	p.image = fixed
	return p
}

// as holds both calls against the nodes that an image has, and the image against what it was; nil: it has none, for that error.
func (p *paper) as(raw []api.Node, err api.Errno) {
	p.t.Helper()
	room := append(bytes.Clone(p.image), 1, 2, 3) // the spare room of what is handed in
	given := room[:len(p.image)]
	got, e := Raw(given)
	same(p.t, "Raw", got, raw)
	numbered, e2 := Nodes(given)
	same(p.t, "Nodes", numbered, anewPlainly(raw))
	if e != err || e2 != err {
		p.t.Fatalf("%d, %d, not %d", e, e2, err)
	}
	if !bytes.Equal(given, p.image) || !bytes.Equal(room[len(given):], []byte{1, 2, 3}) {
		p.t.Fatal("what was handed in was changed")
	}
}

// asPlain holds both calls against a plain reading of the image.
func (p *paper) asPlain() []api.Node {
	p.t.Helper()
	raw := readPlainly(p.image)
	p.as(raw, api.OK)
	return raw
}

func filled(block int) []byte {
	return bytes.Repeat([]byte{byte(block), byte(block >> 8), 1, 255}, 256)
}

func dir(links, size int, blocks ...int) api.Inode {
	i := api.Inode{Kind: api.Dir, Links: links, Size: size}
	copy(i.Direct[:], blocks)
	return i
}

func file(links, size int, blocks ...int) api.Inode {
	i := dir(links, size, blocks...)
	i.Kind = api.File
	return i
}

// tables gives an inode a Single and a Double.
func tables(i api.Inode, single, double int) api.Inode {
	i.Single, i.Double = single, double
	return i
}

func to(ino int, name string) api.Entry { return api.Entry{Ino: ino, Name: name} }

// names are the entries of a directory: its dots, and the others.
func names(ino, parent int, l ...api.Entry) []api.Entry {
	return append([]api.Entry{to(ino, "."), to(parent, "..")}, l...)
}

// span are the numbers of a row.
func span(from, to int) []int {
	var l []int
	for n := from; n <= to; n++ {
		l = append(l, n)
	}
	return l
}
