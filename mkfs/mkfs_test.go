package mkfs

import (
	"bytes"
	"encoding/binary"
	"math"
	"reflect"
	"testing"

	"lockgate/api"
	"lockgate/reader"
	"lockgate/scan"
)

// fine are geometries that may be, the least and the greatest among them.
func fine() []api.Geometry {
	var out []api.Geometry
	for _, groups := range []int{1, 2, 8} {
		for inodes := 1; inodes <= 4; inodes++ {
			for _, data := range []int{8, 9, 16, 255, 1000} {
				out = append(out, api.Geometry{Groups: groups, Inodes: inodes, Data: data})
			}
		}
	}
	return out
}

// refused are geometries that break one bound each, or all.
func refused() []api.Geometry {
	out := []api.Geometry{{}, {Groups: 1}, {Inodes: 1}, {Data: 8}}
	far := []int{0, -1, math.MinInt, math.MaxInt, 1 << 16, 1 << 31, 1<<32 + 1, 1<<32 + 8}
	for _, n := range append([]int{9}, far...) {
		out = append(out, api.Geometry{Groups: n, Inodes: 1, Data: 8}, api.Geometry{Groups: n, Inodes: n, Data: n})
	}
	for _, n := range append([]int{5}, far...) {
		out = append(out, api.Geometry{Groups: 1, Inodes: n, Data: 8})
	}
	for _, n := range append([]int{1, 7, 1001}, far...) {
		out = append(out, api.Geometry{Groups: 8, Inodes: 4, Data: n})
	}
	return out
}

// block is a block of these bytes at these places, all else 0.
func block(pieces map[int][]byte) []byte {
	b := make([]byte, 1024)
	for at, piece := range pieces {
		copy(b[at:], piece)
	}
	return b
}

func superBlock(g api.Geometry) []byte {
	b := []byte("LOCKGATE")
	for _, n := range []int{g.Groups, g.Inodes, g.Data} {
		b = binary.LittleEndian.AppendUint32(b, uint32(n))
	}
	sum := 0
	for _, x := range b {
		sum += int(x)
	}
	return block(map[int][]byte{0: binary.LittleEndian.AppendUint32(b, uint32(sum))})
}

// imageOf is an empty file system as the promise says it, put together block by block without the layers.
func imageOf(g api.Geometry) []byte {
	image := superBlock(g)
	for group := range g.Groups {
		head := map[int][]byte{0: {'C', 'G', byte(group), 0}}
		inodes, data := map[int][]byte{}, map[int][]byte{}
		if group == 0 {
			head[16], head[64] = []byte{1}, []byte{1}
			inodes[0] = []byte{2, 0, 2, 0, 0, 4, 0, 0, byte(2 + g.Inodes), 0, 0, 0}
			data[0], data[32] = []byte{1, 0, 0, 0, 1, '.'}, []byte{1, 0, 0, 0, 2, '.', '.'}
		}
		image = append(image, block(head)...)
		image = append(image, block(inodes)...)
		image = append(image, make([]byte, 1024*(g.Inodes-1))...)
		image = append(image, block(data)...)
		image = append(image, make([]byte, 1024*(g.Data-1))...)
	}
	return image
}

// spoil overwrites a list and its spare room.
func spoil(b []byte) {
	b = b[:cap(b)]
	for i := range b {
		b[i] = 170
	}
}

// P701

func TestImageOfTheExample(t *testing.T) {
	b, err := Image(api.Geometry{Groups: 1, Inodes: 1, Data: 8})
	if err != api.OK || len(b) != 11*1024 {
		t.Fatalf("%d, %d bytes", err, len(b))
	}
	left := bytes.Clone(b)
	for at, want := range map[int][]byte{
		0:           append([]byte("LOCKGATE"), 1, 0, 0, 0, 1, 0, 0, 0, 8, 0, 0, 0, 84, 2, 0, 0), // 586 of the letters, and 10
		1024:        {'C', 'G', 0, 0},
		1024 + 16:   {1},
		1024 + 64:   {1},
		2 * 1024:    {2, 0, 2, 0, 0, 4, 0, 0, 3, 0, 0, 0},
		3 * 1024:    {1, 0, 0, 0, 1, '.'},
		3*1024 + 32: {1, 0, 0, 0, 2, '.', '.'},
	} {
		if got := b[at : at+len(want)]; !bytes.Equal(got, want) {
			t.Errorf("at %d stands %v, not %v", at, got, want)
		}
		clear(left[at : at+len(want)])
	}
	if !bytes.Equal(left, make([]byte, 11*1024)) {
		t.Error("something else is not 0")
	}
}

func TestImageIsTheBytesOfADisk(t *testing.T) {
	for _, g := range fine() {
		if b, err := Image(g); err != api.OK || !bytes.Equal(b, imageOf(g)) {
			t.Errorf("Image(%+v): %d, %d bytes", g, err, len(b))
		}
	}
}

func TestImageRefuses(t *testing.T) {
	for _, g := range refused() {
		if b, err := Image(g); err != api.ErrArg || b != nil {
			t.Errorf("Image(%+v): %d, %d bytes", g, err, len(b))
		}
	}
}

// P702

func TestImageIsClean(t *testing.T) {
	for _, g := range fine() {
		if b, _ := Image(g); !scan.Clean(b) {
			t.Errorf("Image(%+v) is not Clean", g)
		}
	}
}

// TestCleanTellsWhatIsNoImage: that Image is Clean says something only if what differs from it is not.
func TestCleanTellsWhatIsNoImage(t *testing.T) {
	g := api.Geometry{Groups: 2, Inodes: 2, Data: 9}
	b, _ := Image(g)
	root := 4 * 1024                             // the first data block; the heads are blocks 1 and 13
	for _, n := range []int{0, 1, 2, 3, 4, 13} { // blocks of which each byte is told by the promise
		for at := n * 1024; at < (n+1)*1024; at++ {
			c := bytes.Clone(b)
			c[at] ^= 2
			if scan.Clean(c) {
				t.Errorf("byte %d is turned, and it is Clean", at)
			}
		}
	}
	if c := append(bytes.Clone(b[:root]), b[root+1024:]...); scan.Clean(c) {
		t.Error("a block is missing, and it is Clean")
	}
}

func TestReaderTellsOneDirectory(t *testing.T) {
	want := []api.Node{{Ino: 1, Kind: api.Dir, Links: 2, Size: 1024, Slots: make([]api.Entry, 30)}}
	for _, g := range fine() {
		b, _ := Image(g)
		if got, err := reader.Nodes(b); err != api.OK || !reflect.DeepEqual(got, want) {
			t.Errorf("Nodes of Image(%+v): %d, %+v", g, err, got)
		}
		if got, err := reader.Raw(b); err != api.OK || !reflect.DeepEqual(got, want) {
			t.Errorf("Raw of Image(%+v): %d, %+v", g, err, got)
		}
	}
}

func TestImageHangsOnItsArgumentAlone(t *testing.T) {
	for _, g := range []api.Geometry{{Groups: 1, Inodes: 1, Data: 8}, {Groups: 3, Inodes: 4, Data: 100}} {
		first, _ := Image(g)
		spoil(first)
		Image(api.Geometry{Groups: 8, Inodes: 2, Data: 1000})
		Image(api.Geometry{Groups: 9, Inodes: 2, Data: 1000})
		if again, err := Image(g); err != api.OK || !bytes.Equal(again, imageOf(g)) {
			t.Errorf("Image(%+v): answered otherwise the second time", g)
		}
	}
}
