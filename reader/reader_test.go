package reader

import (
	"bytes"
	"reflect"
	"testing"

	"lockgate/api"
	"lockgate/dinode"
	"lockgate/entry"
	"lockgate/fsck"
	"lockgate/geom"
	"lockgate/mkfs"
)

// inodes are in block 2, data blocks from block 3 on.
var g = api.Geometry{Groups: 1, Inodes: 1, Data: 40}

func put(t *testing.T, image []byte, at int, b []byte, err api.Errno) {
	t.Helper()
	if err != api.OK {
		t.Fatal(err)
	}
	copy(image[at:], b)
}

// drawn is a file system: /d with f in its second block, /e, and f's second name /g; d's inode has the greatest number.
func drawn(t *testing.T) []byte {
	image, _ := mkfs.Image(g)
	f := api.Inode{Kind: api.File, Links: 2, Size: 530 * 1024, Direct: [8]int{0, 10}, Single: 11, Double: 12}
	for ino, i := range map[int]api.Inode{
		1: {Kind: api.Dir, Links: 3, Size: 1024, Direct: [8]int{3}},
		9: {Kind: api.Dir, Links: 2, Size: 2048, Direct: [8]int{8, 7}},
		5: f,
		3: {Kind: api.File, Links: 1, Size: 5},
	} {
		b, err := dinode.Pack(i)
		block, at, _ := geom.InodeAt(g, ino)
		put(t, image, block*1024+at, b, err)
	}
	for block, l := range map[int][]api.Entry{
		3: {{Ino: 1, Name: "."}, {Ino: 1, Name: ".."}, {Ino: 9, Name: "d"}, {}, {Ino: 3, Name: "e"}, {Ino: 5, Name: "g"}},
		8: {{Ino: 9, Name: "."}, {Ino: 1, Name: ".."}},
		7: {{}, {Ino: 5, Name: "f"}},
	} {
		b, err := entry.PackBlock(l)
		put(t, image, block*1024, b, err)
	}
	for block, l := range map[int][]int{11: {13, 0, 14}, 12: {15, 16}, 15: {0, 17}, 16: {18}} {
		b, err := dinode.PackPointers(l)
		put(t, image, block*1024, b, err)
	}
	for _, block := range []int{10, 13, 14, 17, 18} {
		put(t, image, block*1024, filled(block), api.OK)
	}
	image, _, ok := fsck.Repair(image) // the bits of the heads
	if !ok {
		t.Fatal("not usable")
	}
	return image
}

func filled(block int) []byte { return bytes.Repeat([]byte{byte(block)}, 1024) }

// nodes are what drawn is, with these numbers for d, e, f.
func nodes(d, e, f int) (root, nodeD, nodeE, nodeF api.Node) {
	root = api.Node{Ino: 1, Kind: api.Dir, Links: 3, Size: 1024, Slots: make([]api.Entry, 30)}
	root.Slots[0], root.Slots[2], root.Slots[3] = api.Entry{Ino: d, Name: "d"}, api.Entry{Ino: e, Name: "e"}, api.Entry{Ino: f, Name: "g"}
	nodeD = api.Node{Ino: d, Kind: api.Dir, Links: 2, Size: 2048, Slots: make([]api.Entry, 62)}
	nodeD.Slots[31] = api.Entry{Ino: f, Name: "f"}
	nodeE = api.Node{Ino: e, Kind: api.File, Links: 1, Size: 5}
	nodeF = api.Node{Ino: f, Kind: api.File, Links: 2, Size: 530 * 1024, Blocks: []api.Part{
		{At: 1, Data: filled(10)}, {At: 8, Data: filled(13)}, {At: 10, Data: filled(14)}, {At: 265, Data: filled(17)}, {At: 520, Data: filled(18)},
	}}
	return
}

func TestRaw(t *testing.T) {
	image := drawn(t)
	root, d, e, f := nodes(9, 3, 5)
	if got, err := Raw(image); err != api.OK || !reflect.DeepEqual(got, []api.Node{root, e, f, d}) {
		t.Errorf("%d, %+v", err, got)
	}
}

func TestNodes(t *testing.T) {
	image := drawn(t)
	root, d, e, f := nodes(2, 3, 4)
	if got, err := Nodes(image); err != api.OK || !reflect.DeepEqual(got, []api.Node{root, d, e, f}) {
		t.Errorf("%d, %+v", err, got)
	}
}

func TestOfAnEmptyFileSystem(t *testing.T) {
	image, _ := mkfs.Image(g)
	want := []api.Node{{Ino: 1, Kind: api.Dir, Links: 2, Size: 1024, Slots: make([]api.Entry, 30)}}
	for _, read := range []func([]byte) ([]api.Node, api.Errno){Raw, Nodes} {
		if got, err := read(image); err != api.OK || !reflect.DeepEqual(got, want) {
			t.Errorf("%d, %+v", err, got)
		}
	}
}

func TestErrors(t *testing.T) {
	image := drawn(t)
	turned, dirty := bytes.Clone(image), bytes.Clone(image)
	turned[0]++
	dirty[1024+64]++
	for _, read := range []func([]byte) ([]api.Node, api.Errno){Raw, Nodes} {
		for _, x := range [][]byte{nil, image[:1024], image[:len(image)-1], append(bytes.Clone(dirty), 0), turned} {
			if got, err := read(x); err != api.ErrSuper || got != nil {
				t.Errorf("%d bytes: %d, %+v", len(x), err, got)
			}
		}
		if got, err := read(dirty); err != api.ErrByte || got != nil {
			t.Errorf("%d, %+v", err, got)
		}
	}
}

func TestAnswersAreNewMemory(t *testing.T) {
	image := drawn(t)
	given := bytes.Clone(image)
	for _, read := range []func([]byte) ([]api.Node, api.Errno){Raw, Nodes} {
		want, _ := read(image)
		got, _ := read(image)
		for k := range got {
			clear(got[k].Slots[:cap(got[k].Slots)])
			for _, part := range got[k].Blocks {
				clear(part.Data[:cap(part.Data)])
			}
		}
		again, _ := read(image)
		if !bytes.Equal(image, given) || !reflect.DeepEqual(again, want) {
			t.Error("what is answered shares memory")
		}
	}
}
