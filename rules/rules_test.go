package rules

import (
	"bytes"
	"math/rand"
	"slices"
	"testing"
	"time"

	"lockgate/api"
	"lockgate/bmap"
	"lockgate/dinode"
	"lockgate/entry"
	"lockgate/geom"
	"lockgate/mkfs"
	"lockgate/super"
)

// small has inodes 1 to 16 in block 2, and the data blocks 3 to 42.
var small = api.Geometry{Groups: 1, Inodes: 1, Data: 40}

// large is as large as a disk may be.
var large = api.Geometry{Groups: 8, Inodes: 4, Data: 1000}

// paper is an image on which a test draws.
type paper struct {
	t     testing.TB
	g     api.Geometry
	image []byte
}

func empty(t testing.TB, g api.Geometry) *paper {
	image, err := mkfs.Image(g)
	if err != api.OK {
		t.Fatal(err)
	}
	return &paper{t, g, image}
}

func (p *paper) put(at int, b []byte, err api.Errno) {
	p.t.Helper()
	if err != api.OK {
		p.t.Fatal(err)
	}
	copy(p.image[at:], b)
}

func (p *paper) inode(ino int, i api.Inode) *paper {
	p.t.Helper()
	block, at, _ := geom.InodeAt(p.g, ino)
	b, err := dinode.Pack(i)
	p.put(block*1024+at, b, err)
	return p
}

func (p *paper) table(block int, l ...int) *paper {
	p.t.Helper()
	b, err := dinode.PackPointers(l)
	p.put(block*1024, b, err)
	return p
}

func (p *paper) entries(block int, l ...api.Entry) *paper {
	p.t.Helper()
	b, err := entry.PackBlock(l)
	p.put(block*1024, b, err)
	return p
}

// marked writes the heads: these blocks are in use, no others.
func (p *paper) marked(blocks ...int) *paper {
	for group := range p.g.Groups {
		head := 1 + group*(1+p.g.Inodes+p.g.Data)
		row := make([]byte, 125)
		for _, block := range blocks {
			if at := block - head - 1 - p.g.Inodes; at >= 0 && at < p.g.Data {
				row[at/8] |= 1 << (at % 8)
			}
		}
		b, err := super.Head(p.g, group, nil, row)
		p.put(head*1024, b, err)
	}
	return p
}

// all marks every data block.
func (p *paper) all() *paper {
	for group := range p.g.Groups {
		b, err := super.Head(p.g, group, nil, bytes.Repeat([]byte{255}, 125))
		p.put((1+group*(1+p.g.Inodes+p.g.Data))*1024, b, err)
	}
	return p
}

func (p *paper) is(want int) {
	p.t.Helper()
	given := bytes.Clone(p.image)
	if got := Check(p.image); got != want {
		p.t.Errorf("Check: %d, must be %d", got, want)
	}
	if !bytes.Equal(p.image, given) {
		p.t.Error("Check changed the image")
	}
}

func (p *paper) reaches(want ...int) {
	p.t.Helper()
	given := bytes.Clone(p.image)
	if got := Reached(p.image); !slices.Equal(got, want) {
		p.t.Errorf("Reached: %v, must be %v", got, want)
	}
	if !bytes.Equal(p.image, given) {
		p.t.Error("Reached changed the image")
	}
}

func dir(links, size int, blocks ...int) api.Inode {
	i := api.Inode{Kind: api.Dir, Links: links, Size: size}
	copy(i.Direct[:], blocks)
	return i
}

func file(links, size int, blocks ...int) api.Inode {
	i := dir(links, size, blocks...)
	i.Kind = api.File
	return i
}

// tables gives an inode a Single and a Double.
func tables(i api.Inode, single, double int) api.Inode {
	i.Single, i.Double = single, double
	return i
}

func to(ino int, name string) api.Entry { return api.Entry{Ino: ino, Name: name} }

// names are the entries of a directory: its dots, and the others.
func names(ino, parent int, l ...api.Entry) []api.Entry {
	return append([]api.Entry{to(ino, "."), to(parent, "..")}, l...)
}

// withFile has an inode 2 that Root names.
func withFile(t testing.TB, g api.Geometry, i api.Inode) *paper {
	p := empty(t, g)
	first, _ := geom.Data(g, 0)
	return p.entries(first, names(1, 1, to(2, "f"))...).inode(2, i)
}

func TestUsable(t *testing.T) {
	for _, want := range []api.Geometry{{Groups: 1, Inodes: 1, Data: 8}, {Groups: 2, Inodes: 4, Data: 100}} {
		b, _ := super.Pack(want)
		size := (1 + want.Groups*(1+want.Inodes+want.Data)) * 1024
		image := append(b, bytes.Repeat([]byte{7}, size)...)
		if g, ok := Usable(image[:size]); !ok || g != want {
			t.Errorf("%+v: %+v, %v", want, g, ok)
		}
		for _, n := range []int{0, 1, 1023, 1024, 1025, size - 1024, size - 1, size + 1, size + 1023, size + 1024} {
			if g, ok := Usable(image[:n]); ok || g != (api.Geometry{}) {
				t.Errorf("%+v in %d bytes: %+v", want, n, g)
			}
		}
		image[1023] = 1
		if g, ok := Usable(image[:size]); ok || g != (api.Geometry{}) {
			t.Errorf("no superblock: %+v", g)
		}
	}
	if _, ok := Usable(nil); ok {
		t.Error("nil")
	}
}

// P1601

func TestOfEmptyFileSystems(t *testing.T) {
	for _, g := range []api.Geometry{small, {Groups: 1, Inodes: 1, Data: 8}, {Groups: 3, Inodes: 2, Data: 20}, large} {
		p := empty(t, g)
		p.is(0)
		p.reaches(1)
	}
	p := empty(t, small).inode(1, dir(1, 1024, 3)) // the chapter's example
	p.is(6)
	p.reaches(1)
}

func TestOfWhatIsNotUsable(t *testing.T) {
	b := empty(t, small).image
	turned, sum := bytes.Clone(b), bytes.Clone(b)
	turned[0] ^= 1
	sum[20]++
	for _, x := range [][]byte{nil, {}, b[:1], b[:1023], b[:1024], b[1024:], b[:len(b)-1], b[:len(b)-1024], append(bytes.Clone(b), 0), append(bytes.Clone(b), make([]byte, 1024)...), turned, sum, make([]byte, len(b))} {
		if n, l := Check(x), Reached(x); n != 1 || len(l) != 0 {
			t.Errorf("%d bytes: %d, %v", len(x), n, l)
		}
	}
}

func TestOfRoot(t *testing.T) {
	p := empty(t, small).inode(1, api.Inode{})
	p.is(2)
	p.reaches(1) // a Free one is read all the same

	p = empty(t, small)
	p.image[2*1024+60] = 1 // the bytes of no inode
	p.is(2)
	p.reaches()

	// A file has no entries, whatever lies in its blocks.
	p = empty(t, small).inode(1, file(0, 1024, 3)).entries(3, to(1, "."), to(99, "none"), to(5, "free"))
	p.is(0)
	p.reaches(1)
}

func TestOfNames(t *testing.T) {
	for ino, want := range map[int]int{2: 0, 16: 0, 3: 2, 17: 2, 1 << 30: 2, 1<<32 - 1: 2} {
		p := empty(t, small).inode(2, file(1, 0)).inode(16, file(1, 0)).entries(3, names(1, 1, to(ino, "x"))...)
		p.is(want)
		if ino > 16 {
			p.reaches(1)
		} else {
			p.reaches(1, ino)
		}
	}
	bad := withFile(t, small, file(1, 0))
	bad.image[2*1024+64+50] = 1
	bad.is(2)
	bad.reaches(1)

	// What is told as a free entry names nothing.
	p := empty(t, small).entries(3, names(1, 1, to(99, "x"), to(99, "y"))...)
	p.image[3*1024+2*32+5] = '/'
	p.image[3*1024+3*32+31] = 1
	p.is(0)
	p.reaches(1)

	// A name is one wherever it leads: the dots too.
	empty(t, small).entries(3, to(1, "."), to(9, "..")).is(2)
	empty(t, small).entries(3, to(9, ".")).is(2)
}

// TestOfNamesInOtherGroups: the last inode of each group, and the first one.
func TestOfNamesInOtherGroups(t *testing.T) {
	g := api.Geometry{Groups: 3, Inodes: 2, Data: 20} // 32 inodes a group, from block 2, 25 and 48 on
	var l []api.Entry
	p := empty(t, g)
	for _, ino := range []int{96, 32, 33, 64, 65} {
		l = append(l, to(ino, "f"))
		p.inode(ino, file(1, 0))
	}
	p.entries(4, names(1, 1, l...)...)
	p.is(0)
	p.reaches(1, 32, 33, 64, 65, 96)
	p.entries(4, names(1, 1, append(l, to(97, "none"))...)...)
	p.is(2)
	p.reaches(1, 32, 33, 64, 65, 96)
}

func TestOfWhatIsNotReached(t *testing.T) {
	p := empty(t, small).inode(7, tables(dir(0, 4096, 3, 2, 99, 5), 1, 3)).inode(8, file(0, 0, 3)).entries(5, to(99, "none"), to(8, "f"))
	p.image[2*1024+8*64+63] = 1 // inode 9 is none
	p.is(0)
	p.reaches(1)
}

// TestOfDirectories: a ring of them, of which each is gone over once.
func TestOfDirectories(t *testing.T) {
	p := empty(t, small).marked(3, 4, 5, 6).
		entries(3, names(1, 1, to(9, "a"))...).inode(1, dir(3, 1024, 3)).
		entries(4, names(9, 1, to(5, "b"))...).inode(9, dir(4, 1024, 4)).
		entries(5, names(5, 9, to(9, "ring"), to(2, "f"))...).inode(5, dir(2, 1024, 5)).
		inode(2, file(1, 0, 6))
	p.is(0)
	p.reaches(1, 2, 5, 9)
	p.inode(9, dir(3, 1024, 4)).is(6)
	p.inode(9, dir(4, 1024, 4)).inode(2, file(0, 0, 6)).is(6)
	p.inode(2, file(65535, 0, 6)).is(0)
}

// TestOfTheEntriesThatCount: a directory's blocks are those below the count of its size.
func TestOfTheEntriesThatCount(t *testing.T) {
	for size, within := range map[int]bool{
		0: false, 1: false, 1024: false, 1025: true, 2048: true, 5000: true, api.MaxSize: true, api.MaxSize + 1: false, 1<<32 - 1: false,
	} {
		want, links := 0, []int{1}
		if within {
			want, links = 2, []int{1, 7}
		}
		p := empty(t, small).marked(3, 4).inode(1, dir(2, size, 3, 4)).entries(4, to(7, "x"))
		p.is(want)
		p.reaches(links...)
	}
}

// TestOfEntriesBelowTables: the edges of the levels, and what lies beyond the size.
func TestOfEntriesBelowTables(t *testing.T) {
	at := func(places int, block int) []int { return append(make([]int, places), block) }
	for n, draw := range map[int]func(p *paper){
		7:   func(p *paper) { p.inode(1, dir(2, 0, 3, 0, 0, 0, 0, 0, 0, 10)) },
		8:   func(p *paper) { p.inode(1, tables(dir(2, 0, 3), 4, 0)).table(4, 10) },
		263: func(p *paper) { p.inode(1, tables(dir(2, 0, 3), 4, 0)).table(4, at(255, 10)...) },
		264: func(p *paper) { p.inode(1, tables(dir(2, 0, 3), 0, 4)).table(4, 5).table(5, 10) },
		519: func(p *paper) { p.inode(1, tables(dir(2, 0, 3), 0, 4)).table(4, 5).table(5, at(255, 10)...) },
		520: func(p *paper) { p.inode(1, tables(dir(2, 0, 3), 0, 4)).table(4, 0, 5).table(5, 10) },
		api.MaxBlocks - 1: func(p *paper) {
			p.inode(1, tables(dir(2, 0, 3), 0, 4)).table(4, at(255, 5)...).table(5, at(255, 10)...)
		},
	} {
		p := empty(t, small).marked(3, 4, 5, 10).entries(10, to(7, "x"))
		draw(p)
		root, _ := dinode.Read(p.image[2*1024 : 2*1024+64])
		for blocks, want := range map[int]int{n: 0, n + 1: 2} {
			root.Size = blocks * 1024
			p.inode(1, root).is(want)
			root.Size = blocks*1024 - 1023
			p.inode(1, root).is(want)
		}
	}
}

func TestOfPointersThatLeadNowhere(t *testing.T) {
	// The entries behind a hole count, and those behind a pointer that is no data block.
	p := empty(t, small).marked(3, 4).inode(1, dir(2, 3072, 3, 0, 4)).entries(4, to(7, "x")).inode(7, file(1, 0))
	p.is(0)
	p.reaches(1, 7)
	p.inode(1, dir(2, 3072, 3, 1, 4)).is(3)
	p.reaches(1, 7)
	p.inode(1, dir(2, 3072, 3, 1<<32-1, 4)).is(3)
	p.reaches(1, 7)

	// A block of inodes is no directory's, although an entry lies there; nor is one beyond the disk.
	x, _ := entry.Pack(to(7, "x"))
	for _, block := range []int{2, 43} {
		p = empty(t, small).inode(1, dir(2, 3072, 3, block))
		p.put(2*1024+8*64, x, api.OK)
		p.is(3)
		p.reaches(1)
	}

	// Nor is it an indirect one, although a pointer lies there.
	for _, i := range []api.Inode{tables(dir(2, api.MaxSize, 3), 2, 0), tables(dir(2, api.MaxSize, 3), 0, 2), tables(dir(2, api.MaxSize, 3), 0, 4)} {
		p = empty(t, small).all().inode(1, i).entries(10, to(7, "x")).table(4, 2)
		p.put(2*1024+8*64, []byte{10, 0, 0, 0}, api.OK)
		p.is(3)
		p.reaches(1)
	}
}

func TestOfPointersThatCannotBe(t *testing.T) {
	for block, want := range map[int]int{1: 3, 2: 3, 4: 0, 5: 4, 42: 0, 43: 3, 44: 3, 1 << 20: 3, 1<<32 - 1: 3} {
		for _, i := range []api.Inode{file(1, 0, block), file(1, 0, 0, 0, 0, 0, 0, 0, 0, block), tables(file(1, 0), block, 0), tables(file(1, 0), 0, block)} {
			withFile(t, small, i).marked(3, 4, 6, 7, 42).is(want)
		}
		withFile(t, small, tables(file(1, 0), 6, 0)).marked(3, 4, 6, 7, 42).table(6, 0, block).is(want)
		withFile(t, small, tables(file(1, 0), 0, 6)).marked(3, 4, 6, 7, 42).table(6, 0, block).is(want)
		withFile(t, small, tables(file(1, 0), 0, 6)).marked(3, 4, 6, 7, 42).table(6, 0, 7).table(7, append(make([]int, 255), block)...).is(want)
	}
	g := api.Geometry{Groups: 2, Inodes: 1, Data: 20} // the second head is block 23, its inodes 24
	for block, want := range map[int]int{21: 0, 22: 0, 23: 3, 24: 3, 25: 0, 26: 4, 44: 0, 45: 3} {
		withFile(t, g, file(1, 0, block)).marked(3, 21, 22, 25, 44).is(want)
	}
}

// TestOfLevels: the blocks to which a row of the last level leads are not looked into.
func TestOfLevels(t *testing.T) {
	full := bytes.Repeat([]byte{255}, 1024)
	for _, i := range []api.Inode{file(1, 0, 10), tables(file(1, 0), 6, 0), tables(file(1, 0), 0, 8)} {
		p := withFile(t, small, i).marked(3, 6, 7, 8, 10).table(6, 10).table(8, 7).table(7, 10)
		p.put(10*1024, full, api.OK)
		p.is(0)
	}
}

func TestOfPointersToOneBlock(t *testing.T) {
	one := func(i api.Inode) *paper { return withFile(t, small, i).all() }
	one(file(1, 0, 5, 5)).is(5)
	one(file(1, 0, 3)).is(5) // Root's
	one(tables(file(1, 0, 5), 5, 0)).is(5)
	one(tables(file(1, 0), 5, 5)).is(5)
	one(tables(file(1, 0), 5, 0)).table(5, 6, 6).is(5)
	one(tables(file(1, 0), 5, 0)).table(5, 5).is(5)
	one(tables(file(1, 0), 0, 5)).table(5, 6, 6).is(5)
	one(tables(file(1, 0), 0, 5)).table(5, 6).table(6, 5).is(5)
	one(tables(file(1, 0), 0, 5)).table(5, 6, 7).table(6, 8).table(7, 9, 8).is(5)
	one(tables(file(1, 0), 0, 5)).table(5, 6, 7).table(6, 8).table(7, 9, 10).is(0)
	other := one(file(1, 0, 5)).entries(3, names(1, 1, to(2, "f"), to(3, "g"))...)
	other.inode(3, file(1, 0, 6)).is(0)
	other.inode(3, file(1, 0, 6, 0, 5)).is(5)
}

// TestOfTheLeast: of several that are broken the least is told.
func TestOfTheLeast(t *testing.T) {
	broken := func(from int) *paper {
		p := empty(t, small).marked(3, 4)
		root, l := dir(2, 1024, 3), names(1, 1)
		for rule := from; rule <= 6; rule++ {
			switch rule {
			case 1:
				p.image[0] = 0
			case 2:
				l = append(l, to(9, "none"))
			case 3:
				root.Direct[5] = 2
			case 4:
				root.Direct[4] = 20
			case 5:
				root.Direct[2], root.Direct[3] = 4, 4
			case 6:
				root.Links = 1
			}
		}
		return p.inode(1, root).entries(3, l...)
	}
	for rule := 1; rule <= 6; rule++ {
		broken(rule).is(rule)
	}
	broken(7).is(0)
}

func TestOfLinks(t *testing.T) {
	l := names(1, 1, to(2, "a"), to(2, "b"), to(2, "b"))
	for links, want := range map[int]int{0: 6, 1: 6, 2: 6, 3: 0, 4: 0, 65535: 0} {
		empty(t, small).entries(3, l...).inode(2, file(links, 0)).is(want)
	}
	// The entries of all blocks of all directories count.
	p := empty(t, small).marked(3, 4, 5, 6).inode(1, dir(3, 2048, 3, 4)).inode(3, dir(2, 2048, 5, 6)).
		entries(3, names(1, 1, to(2, "a"))...).entries(4, to(3, "d"), to(2, "b")).
		entries(5, names(3, 1, to(2, "a"))...).entries(6, api.Entry{}, to(2, "b"))
	p.inode(2, file(4, 0)).is(0)
	p.inode(2, file(3, 0)).is(6)
	p.inode(2, file(4, 0)).inode(1, dir(2, 2048, 3, 4)).is(6)
}

// manyPointers has that many pointers that are not 0, at least 99,977 of them; the last one is no data block.
func manyPointers(t *testing.T, n int) *paper {
	p := empty(t, small).all()
	full, part := make([]int, 256), make([]int, 133)
	for k := range full {
		full[k] = 5
	}
	for k := range part {
		part[k] = 5
	}
	p.table(5, full...).table(6, part...).
		inode(2, tables(file(1, 0), 0, 5)). // 1 + 256 + 256 * 256
		inode(3, tables(file(1, 0), 0, 6))  // 1 + 133 + 133 * 256
	l := names(1, 1, to(2, "a"), to(3, "b"))
	left := n - 1 - 65793 - 34182
	for ino := 4; left > 0; ino++ {
		i := file(1, 0)
		for k := range min(left, 8) {
			i.Direct[k] = 7
			if left--; left == 0 {
				i.Direct[k] = 2
			}
		}
		p.inode(ino, i)
		l = append(l, to(ino, "c"))
	}
	return p.entries(3, l...)
}

func TestOfVeryManyPointers(t *testing.T) {
	manyPointers(t, 99_999).is(3)
	manyPointers(t, 100_000).is(3)
	manyPointers(t, 100_001).is(5)
	manyPointers(t, 100_008).is(5)
	p := manyPointers(t, 100_001).marked() // and none of the blocks is marked
	p.is(5)
	p = manyPointers(t, 100_001).inode(4, api.Inode{})
	p.is(2)
	p = manyPointers(t, 100_001)
	p.image[0] = 0
	p.is(1)
}

// TestOfPointersOfZeros: those that are 0 do not count, however many there are.
func TestOfPointersOfZeros(t *testing.T) {
	p := empty(t, large)
	l := names(1, 1)
	var blocks []int
	for k := range 5 { // 5 * 129 * 256 pointers
		i, row := file(1, 0), make([]int, 128)
		i.Double = 10 + k
		for j := range row {
			row[j] = 100 + 128*k + j
		}
		p.inode(2+k, i).table(10+k, row...)
		l = append(l, to(2+k, "f"))
		blocks = append(append(blocks, 10+k), row...)
	}
	p.entries(6, l...).marked(append(blocks, 6)...).is(0)
}

// TestOfTheWorst: every inode is a directory of the greatest size, all of whose pointers lead to one block that leads to itself.
func TestOfTheWorst(t *testing.T) {
	p := empty(t, large).all()
	full := make([]int, 256)
	for k := range full {
		full[k] = 7
	}
	p.table(7, full...)
	root := tables(dir(2, api.MaxSize, 6), 7, 7)
	var all []int
	for k := range 16 {
		var l []api.Entry
		for j := range 32 {
			ino := 1 + 32*k + j
			all = append(all, ino)
			l = append(l, to(ino, "d"))
			p.inode(ino, tables(dir(1, api.MaxSize, 7, 7, 7), 7, 7))
		}
		p.entries(100+k, l...)
		if k < 7 {
			root.Direct[1+k] = 100 + k
		} else {
			p.table(8, append(dinode.Pointers(p.image[8*1024 : 9*1024])[:k-7], 100+k)...)
		}
	}
	root.Single = 8
	p.inode(1, root)
	begin := time.Now()
	p.is(5)
	p.reaches(all...)
	if d := time.Since(begin); d > 20*time.Second {
		t.Errorf("it took %v", d)
	}
}

// plain is the chapter read word by word, as slowly as it stands there.
type plain struct {
	g       api.Geometry
	image   []byte
	reached map[int]bool
	names   []int // what the entries of all reached directories name
}

func (m *plain) block(n int) []byte { return m.image[n*1024 : (n+1)*1024] }

func (m *plain) data(block int) bool {
	_, ok := geom.DataOf(m.g, block)
	return ok
}

func (m *plain) inode(ino int) (api.Inode, api.Errno) {
	block, at, ok := geom.InodeAt(m.g, ino)
	if !ok {
		return api.Inode{}, api.ErrArg
	}
	return dinode.Read(m.block(block)[at : at+64])
}

// at is the pointer in a place of the block to which another one leads; 0: that one leads nowhere.
func (m *plain) at(to, place int) int {
	if !m.data(to) {
		return 0
	}
	b := m.block(to)[4*place:]
	return int(b[0]) | int(b[1])<<8 | int(b[2])<<16 | int(b[3])<<24
}

func (m *plain) entries(i api.Inode) []int {
	var out []int
	for n := range bmap.Count(i.Size) {
		level, a, b, _ := bmap.Place(n)
		to := 0
		switch level {
		case 0:
			to = i.Direct[a]
		case 1:
			to = m.at(i.Single, a)
		case 2:
			if to = m.at(i.Double, a); to != 0 {
				to = m.at(to, b)
			}
		}
		if !m.data(to) {
			continue
		}
		for _, e := range entry.Block(m.block(to)) {
			if e.Ino != 0 {
				out = append(out, e.Ino)
			}
		}
	}
	return out
}

// below are the pointers of a row that are not 0, and those in the blocks to which they lead, so many levels down.
func (m *plain) below(row []int, levels int) []int {
	var out []int
	for _, to := range row {
		if to == 0 {
			continue
		}
		out = append(out, to)
		if levels > 0 && m.data(to) {
			out = append(out, m.below(dinode.Pointers(m.block(to)), levels-1)...)
		}
	}
	return out
}

func readPlainly(g api.Geometry, image []byte) *plain {
	m := &plain{g: g, image: image, reached: map[int]bool{1: true}}
	for again := true; again; {
		again, m.names = false, nil
		for ino := 1; ino <= geom.Inodes(g); ino++ {
			if i, err := m.inode(ino); m.reached[ino] && err == api.OK && i.Kind == api.Dir {
				m.names = append(m.names, m.entries(i)...)
			}
		}
		for _, ino := range m.names {
			again = again || !m.reached[ino]
			m.reached[ino] = true
		}
	}
	return m
}

func (m *plain) check() int {
	var pointers []int
	links := false
	for ino := range m.reached {
		i, err := m.inode(ino)
		if err != api.OK || i.Kind == api.Free {
			return 2
		}
		pointers = append(pointers, m.below(i.Direct[:], 0)...)
		pointers = append(pointers, m.below([]int{i.Single}, 1)...)
		pointers = append(pointers, m.below([]int{i.Double}, 2)...)
		named := 0
		for _, n := range m.names {
			if n == ino {
				named++
			}
		}
		links = links || i.Links < named
	}
	if len(pointers) > 100_000 {
		return 5
	}
	slices.Sort(pointers)
	if slices.ContainsFunc(pointers, func(to int) bool { return !m.data(to) }) {
		return 3
	}
	if slices.ContainsFunc(pointers, func(to int) bool {
		n, _ := geom.DataOf(m.g, to)
		head, _ := geom.Head(m.g, n/m.g.Data)
		at := n % m.g.Data
		return m.block(head)[64+at/8]>>(at%8)&1 == 0
	}) {
		return 4
	}
	if len(slices.Compact(slices.Clone(pointers))) < len(pointers) {
		return 5
	}
	if links {
		return 6
	}
	return 0
}

func (m *plain) list() []int {
	var out []int
	for ino := 1; ino <= geom.Inodes(m.g); ino++ {
		if _, err := m.inode(ino); m.reached[ino] && err == api.OK {
			out = append(out, ino)
		}
	}
	return out
}

// TestOfDrawnImages: images that are right but for some things.
func TestOfDrawnImages(t *testing.T) {
	draw := rand.New(rand.NewSource(1))
	var met [7]int
	for round := range 4000 {
		g := api.Geometry{Groups: 1 + round%2, Inodes: 1 + round%3, Data: 30 + draw.Intn(40)}
		p := empty(t, g)
		grow(p, draw)
		for range draw.Intn(4) {
			spoil(p, draw)
		}
		if round%3 == 0 {
			p.all()
		}
		m := readPlainly(g, p.image)
		want := m.check()
		met[want]++
		p.is(want)
		p.reaches(m.list()...)
		if t.Failed() {
			t.Fatalf("round %d", round)
		}
	}
	for rule, n := range met {
		if n < 30 && rule != 1 {
			t.Errorf("rule %d was met %d times", rule, n)
		}
	}
}

// grow makes a tree of some files and directories that keeps the rules.
func grow(p *paper, draw *rand.Rand) {
	blocks, inodes := draw.Perm(geom.Blocks(p.g)), draw.Perm(geom.Inodes(p.g)-1)
	var used []int
	block := func() int {
		b, _ := geom.Data(p.g, blocks[0])
		blocks = blocks[1:]
		used = append(used, b)
		return b
	}
	type made struct {
		ino  int
		i    api.Inode
		list []api.Entry
	}
	all := []*made{{ino: 1, i: dir(2, 0)}}
	all[0].list = names(1, 1)
	for range 2 + draw.Intn(10) {
		up := all[draw.Intn(len(all))]
		if up.i.Kind != api.Dir {
			continue
		}
		x := &made{ino: 2 + inodes[0], i: file(1+draw.Intn(2), draw.Intn(9000))}
		inodes = inodes[1:]
		if draw.Intn(2) == 0 {
			x.i, x.list = dir(2, 0), names(x.ino, up.ino)
			up.i.Links++
		}
		up.list = append(up.list, to(x.ino, "n"))
		all = append(all, x)
	}
	for _, x := range all {
		x.i.Direct[0] = block()
		if x.i.Kind == api.Dir {
			x.i.Size = 1024
			p.entries(x.i.Direct[0], x.list...)
		}
		if len(blocks) > 16 && draw.Intn(3) == 0 {
			x.i.Single = block()
			last := block()
			p.entries(last).table(x.i.Single, append(make([]int, draw.Intn(3)), last)...)
			x.i.Size = 12 * 1024
		}
		if len(blocks) > 16 && draw.Intn(3) == 0 {
			x.i.Double = block()
			row, last := block(), block()
			p.entries(last).table(row, append(make([]int, draw.Intn(3)), last)...)
			p.table(x.i.Double, append(make([]int, draw.Intn(2)), row)...)
			x.i.Size = (264 + draw.Intn(260)) * 1024
		}
		p.inode(x.ino, x.i)
	}
	p.marked(used...)
}

// spoil turns one thing of an image.
func spoil(p *paper, draw *rand.Rand) {
	data, _ := geom.Data(p.g, draw.Intn(geom.Blocks(p.g)))
	block := draw.Intn(geom.Total(p.g) + 2)
	ino := 1 + draw.Intn(geom.Inodes(p.g)+1)
	at, from, ok := geom.InodeAt(p.g, ino)
	number := func(at, n int) { p.put(at, []byte{byte(n), byte(n >> 8), 0, 0}, api.OK) }
	switch draw.Intn(8) {
	case 0: // a bit
		head, _ := geom.Head(p.g, draw.Intn(p.g.Groups))
		p.image[head*1024+64+draw.Intn(p.g.Data)/8] ^= 1 << draw.Intn(8)
	case 1: // a pointer in a block
		number(data*1024+4*draw.Intn(4), block)
	case 2: // an entry
		b, err := entry.Pack(to(ino, "x"))
		p.put(data*1024+32*draw.Intn(4), b, err)
	case 3: // an inode's pointer
		if ok {
			number(at*1024+from+8+4*draw.Intn(10), block)
		}
	case 4: // an inode's links
		if ok {
			p.image[at*1024+from+2] = byte(draw.Intn(4))
		}
	case 5: // a size
		if ok {
			number(at*1024+from+4, draw.Intn(4096))
		}
	case 6: // a kind
		if ok {
			p.image[at*1024+from] = byte(draw.Intn(4))
		}
	case 7: // two blocks of one content
		copy(p.image[data*1024:(data+1)*1024], p.image[(geom.Total(p.g)-1-draw.Intn(8))*1024:])
	}
}

// P1602

func TestReachedIsNewMemory(t *testing.T) {
	p := withFile(t, small, file(1, 0))
	a, b := Reached(p.image), Reached(p.image)
	a[0], a[1] = 7, 7
	if !slices.Equal(b, []int{1, 2}) {
		t.Errorf("%v", b)
	}
	p.reaches(1, 2)
}

// TestSpareRoom: what lies behind the image is neither looked at nor changed.
func TestSpareRoom(t *testing.T) {
	p := empty(t, small)
	wide := append(bytes.Clone(p.image), bytes.Repeat([]byte{9}, 2048)...)
	given := bytes.Clone(wide)
	if Check(wide[:len(p.image)]) != 0 || len(Reached(wide[:len(p.image)])) != 1 || !bytes.Equal(wide, given) {
		t.Error("the spare room")
	}
}
