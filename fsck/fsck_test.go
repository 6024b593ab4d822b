package fsck

import (
	"bytes"
	"math/rand"
	"slices"
	"strconv"
	"testing"

	"lockgate/api"
	"lockgate/dinode"
	"lockgate/entry"
	"lockgate/geom"
	"lockgate/mkfs"
	"lockgate/rules"
	"lockgate/super"
)

// small has inodes 1 to 16 in block 2, and the data blocks 3 to 42.
var small = api.Geometry{Groups: 1, Inodes: 1, Data: 40}

// paper is an image on which a test draws.
type paper struct {
	t     testing.TB
	g     api.Geometry
	image []byte
}

func empty(t testing.TB, g api.Geometry) *paper {
	image, err := mkfs.Image(g)
	if err != api.OK {
		t.Fatal(err)
	}
	return &paper{t, g, image}
}

func (p *paper) put(at int, b []byte, err api.Errno) {
	p.t.Helper()
	if err != api.OK {
		p.t.Fatal(err)
	}
	copy(p.image[at:], b)
}

func (p *paper) inode(ino int, i api.Inode) *paper {
	block, at, _ := geom.InodeAt(p.g, ino)
	b, err := dinode.Pack(i)
	p.put(block*1024+at, b, err)
	return p
}

func (p *paper) table(block int, l ...int) *paper {
	b, err := dinode.PackPointers(l)
	p.put(block*1024, b, err)
	return p
}

func (p *paper) entries(block int, l ...api.Entry) *paper {
	b, err := entry.PackBlock(l)
	p.put(block*1024, b, err)
	return p
}

func (p *paper) fill(block int, x byte) *paper {
	p.put(block*1024, bytes.Repeat([]byte{x}, 1024), api.OK)
	return p
}

// used writes the heads: these inodes and these blocks are in use, no others.
func (p *paper) used(inodes, blocks []int) *paper {
	for group := range p.g.Groups {
		rows := [2][]byte{make([]byte, 8), make([]byte, 125)}
		for _, ino := range inodes {
			if at := ino - 1 - group*p.g.Inodes*16; at >= 0 && at < p.g.Inodes*16 {
				rows[0][at/8] |= 1 << (at % 8)
			}
		}
		head := 1 + group*(1+p.g.Inodes+p.g.Data)
		for _, block := range blocks {
			if at := block - head - 1 - p.g.Inodes; at >= 0 && at < p.g.Data {
				rows[1][at/8] |= 1 << (at % 8)
			}
		}
		b, err := super.Head(p.g, group, rows[0], rows[1])
		p.put(head*1024, b, err)
	}
	return p
}

// becomes holds Repair of the image against another one, and sees that it leaves that one as it is.
func (p *paper) becomes(want *paper) {
	p.t.Helper()
	given := bytes.Clone(p.image)
	fixed, unlike, ok := Repair(p.image)
	if !ok || !bytes.Equal(fixed, want.image) {
		p.t.Fatalf("%v, other than it must be in the blocks %v (%v)", ok, unlikeBlocks(want.image, fixed), unlike)
	}
	if !bytes.Equal(given, p.image) {
		p.t.Error("the argument was changed")
	}
	if !slices.Equal(unlike, unlikeBlocks(given, want.image)) {
		p.t.Errorf("unlike: %v", unlike)
	}
	again, unlike, ok := Repair(want.image)
	if !ok || len(unlike) != 0 || !bytes.Equal(again, want.image) {
		p.t.Errorf("a second time: %v, %v", ok, unlike)
	}
	if plainly, ok := plainRepair(p.t, given); !ok || !bytes.Equal(plainly, want.image) {
		p.t.Error("the plain reading tells otherwise")
	}
}

// asRead holds Repair of the image against the plain reading of the chapter, and tells how many blocks are unlike (-1: it is not usable).
func (p *paper) asRead() int {
	p.t.Helper()
	given := bytes.Clone(p.image)
	fixed, unlike, ok := Repair(p.image)
	want, usable := plainRepair(p.t, given)
	if ok != usable || !bytes.Equal(fixed, want) {
		p.t.Fatalf("%v, must be %v: other than the plain reading has it", ok, usable)
	}
	if !bytes.Equal(given, p.image) {
		p.t.Fatal("the argument was changed")
	}
	if !ok {
		if fixed != nil || unlike != nil {
			p.t.Fatalf("beside false stand %d bytes, %v", len(fixed), unlike)
		}
		return -1
	}
	if !slices.Equal(unlike, unlikeBlocks(given, want)) {
		p.t.Fatalf("unlike: %v", unlike)
	}
	again, twice, ok := Repair(fixed)
	if !ok || len(twice) != 0 || !bytes.Equal(again, fixed) {
		p.t.Fatalf("a second time: %v, %v", twice, ok)
	}
	if rule := rules.Check(fixed); rule != 0 {
		p.t.Fatalf("rule %d is broken", rule)
	}
	return len(unlike)
}

func dir(links, size int, blocks ...int) api.Inode {
	i := api.Inode{Kind: api.Dir, Links: links, Size: size}
	copy(i.Direct[:], blocks)
	return i
}

func file(links, size int, blocks ...int) api.Inode {
	i := dir(links, size, blocks...)
	i.Kind = api.File
	return i
}

// names are the entries of a directory: its dots, and the others.
func names(ino, parent int, l ...api.Entry) []api.Entry {
	return append([]api.Entry{{Ino: ino, Name: "."}, {Ino: parent, Name: ".."}}, l...)
}

func to(ino int, name string) api.Entry { return api.Entry{Ino: ino, Name: name} }

// P1801

func TestRepairOfWhatIsWhole(t *testing.T) {
	for _, g := range []api.Geometry{small, {Groups: 1, Inodes: 1, Data: 8}, {Groups: 8, Inodes: 4, Data: 1000}} {
		empty(t, g).becomes(empty(t, g))
	}
	with := empty(t, small).
		entries(3, names(1, 1, to(2, "d"), api.Entry{}, to(4, "f"))...).inode(1, dir(3, 1024, 3)).
		entries(4, names(2, 1, to(4, "f"), to(3, "g"))...).inode(2, dir(2, 1024, 4)).
		inode(3, file(1, 0)).inode(4, file(2, 1500, 0, 5)).
		used([]int{1, 2, 3, 4}, []int{3, 4, 5}).fill(5, 9).fill(6, 8)
	with.becomes(with)
}

func TestRepairOfTheExample(t *testing.T) {
	p := empty(t, small).inode(1, dir(1, 1024, 3))
	p.becomes(empty(t, small))
	if _, unlike, _ := Repair(p.image); !slices.Equal(unlike, []int{2}) {
		t.Errorf("unlike: %v", unlike)
	}
}

func TestRepairRefuses(t *testing.T) {
	p := empty(t, small)
	long := append(bytes.Clone(p.image), make([]byte, 1024)...)
	turned := bytes.Clone(p.image)
	turned[20] ^= 1
	for _, image := range [][]byte{nil, {}, long, long[:len(long)-1], long[1024:], p.image[:1024], p.image[:len(p.image)-1], turned, make([]byte, 43*1024)} {
		if fixed, unlike, ok := Repair(image); ok || fixed != nil || unlike != nil {
			t.Errorf("%d bytes: %v, %v", len(image), unlike, ok)
		}
	}
}

// P1802

func TestRootIsMadeAnew(t *testing.T) {
	for _, root := range []api.Inode{
		{}, file(2, 1024, 3), dir(2, 1023, 3), dir(2, 0, 3), dir(2, 1024, 0), dir(2, 1024, 2), dir(2, 1024, 43), dir(2, 1<<32-1, 0, 3),
	} {
		p := empty(t, small).inode(1, root).inode(2, file(1, 1024, 9)).entries(3, names(1, 1, to(2, "f"))...).fill(9, 9)
		p.becomes(empty(t, small).fill(9, 9))
	}
	bad := empty(t, small)
	bad.image[2*1024+60] = 1 // the bytes of no inode
	bad.becomes(empty(t, small))
}

func TestRootStaysWhereItIs(t *testing.T) {
	p := empty(t, small).inode(1, dir(7, 1100, 20)).fill(20, 255)
	p.becomes(empty(t, small).inode(1, dir(2, 1024, 20)).entries(20, names(1, 1)...).used([]int{1}, []int{20}))
}

func TestSizes(t *testing.T) {
	one := func(was, is api.Inode) {
		t.Helper()
		p := empty(t, small).entries(3, names(1, 1, to(2, "f"))...).inode(2, was)
		want := empty(t, small).entries(3, names(1, 1, to(2, "f"))...).inode(2, is).used([]int{1, 2}, []int{3})
		p.becomes(want)
	}
	one(file(1, api.MaxSize), file(1, api.MaxSize))
	one(file(1, api.MaxSize+1), file(1, api.MaxSize))
	one(file(5, 1<<32-1), file(1, api.MaxSize))
	one(file(0, 1023), file(1, 1023))
}

func TestPointersOfAFile(t *testing.T) {
	f := file(1, 9*1024, 5, 5, 0, 3, 2, 43, 1, 6) // 5 twice, Root's own, no data blocks
	f.Single, f.Double = 7, 8
	p := empty(t, small).entries(3, names(1, 1, to(2, "f"))...).inode(2, f).table(7, 9, 10).table(8, 11)
	is := file(1, 9*1024, 5, 0, 0, 0, 0, 0, 0, 6)
	is.Single = 7
	want := empty(t, small).entries(3, names(1, 1, to(2, "f"))...).inode(2, is).table(7, 9).table(8, 11).
		used([]int{1, 2}, []int{3, 5, 6, 7, 9})
	p.becomes(want)
}

func TestPointersBehindTheSize(t *testing.T) {
	for size, kept := range map[int]int{0: 0, 1: 1, 1024: 1, 1025: 2, 7 * 1024: 7, 8 * 1024: 8} {
		f, is, blocks := file(1, size), file(1, size), []int{3}
		f.Single, f.Double = 20, 21
		for k := range 8 {
			f.Direct[k] = 5 + k
			if k < kept {
				is.Direct[k] = 5 + k
				blocks = append(blocks, 5+k)
			}
		}
		p := empty(t, small).entries(3, names(1, 1, to(2, "f"))...).inode(2, f).fill(20, 9)
		p.becomes(empty(t, small).entries(3, names(1, 1, to(2, "f"))...).inode(2, is).fill(20, 9).used([]int{1, 2}, blocks))
	}
}

// TestOrderOfPointers: the Single's block's are kept ahead of the Double, and each pointer of that one's block has its own behind it.
func TestOrderOfPointers(t *testing.T) {
	f := file(1, api.MaxSize)
	f.Single, f.Double = 5, 6
	p := empty(t, small).entries(3, names(1, 1, to(2, "f"))...).inode(2, f).
		table(5, 5, 7).table(6, 8, 7, 9).table(8, 6, 9, 10).table(9, 11)
	want := empty(t, small).entries(3, names(1, 1, to(2, "f"))...).inode(2, f).
		table(5, 0, 7).table(6, 8).table(8, 0, 9, 10).table(9, 11).
		used([]int{1, 2}, []int{3, 5, 6, 7, 8, 9, 10})
	p.becomes(want)
}

func TestTheFirstInodeHasABlock(t *testing.T) {
	p := empty(t, small).entries(3, names(1, 1, to(5, "a"), to(2, "b"))...).
		inode(2, file(1, 2048, 7, 8)).inode(5, file(1, 2048, 8, 9))
	p.becomes(empty(t, small).entries(3, names(1, 1, to(5, "a"), to(2, "b"))...).
		inode(2, file(1, 2048, 7)).inode(5, file(1, 2048, 8, 9)).used([]int{1, 2, 5}, []int{3, 7, 8, 9}))
}

func TestADirectoryEndsAheadOfItsHole(t *testing.T) {
	d := dir(2, 9*1024+5, 5, 6, 2, 7)
	d.Single, d.Double = 8, 9
	p := empty(t, small).entries(3, names(1, 1, to(2, "d"), to(3, "f"))...).inode(2, d).table(8, 10).
		inode(3, file(1, 2048, 7, 8)) // what the directory lost is given to the file behind it
	p.becomes(empty(t, small).entries(3, names(1, 1, to(2, "d"), to(3, "f"))...).inode(1, dir(3, 1024, 3)).
		inode(2, dir(2, 2048, 5, 6)).entries(5, names(2, 1)...).entries(6).table(8, 10).
		inode(3, file(1, 2048, 7, 8)).used([]int{1, 2, 3}, []int{3, 5, 6, 7, 8}))
}

// TestADirectoryGivesBackItsTables: an indirect block whose first block is behind the hole is the directory's no more.
func TestADirectoryGivesBackItsTables(t *testing.T) {
	d := dir(2, 20*1024, 5, 6, 7, 8, 9, 10, 11, 12)
	d.Single = 13
	p := empty(t, small).entries(3, names(1, 1, to(2, "d"))...).inode(2, d).table(13, 0, 14)
	for block := 5; block <= 12; block++ {
		p.entries(block)
	}
	want := empty(t, small)
	copy(want.image, p.image)
	want.inode(1, dir(3, 1024, 3)).inode(2, dir(2, 8*1024, 5, 6, 7, 8, 9, 10, 11, 12)).entries(5, names(2, 1)...).
		used([]int{1, 2}, []int{3, 5, 6, 7, 8, 9, 10, 11, 12})
	p.becomes(want)
}

// long draws a directory of that many blocks, from block 10 on; its Single is block 6, its Double block 7, whose own are 8 and 9.
func long(p *paper, ino, blocks int) (api.Inode, []int) {
	d, all, rows := dir(2, blocks*1024), []int{6, 7, 8}, [3][]int{}
	d.Single, d.Double = 6, 7
	for n := range blocks {
		all = append(all, 10+n)
		if n < 8 {
			d.Direct[n] = 10 + n
		} else {
			rows[(n-8)/256] = append(rows[(n-8)/256], 10+n)
		}
	}
	p.table(6, rows[0]...).table(7, 8, 9).table(8, rows[1]...).table(9, rows[2]...).inode(ino, d).entries(10, names(ino, 1)...)
	return d, all
}

func TestALongDirectory(t *testing.T) {
	g := api.Geometry{Groups: 1, Inodes: 1, Data: 1000}
	for blocks, tables := range map[int][]int{521: {6, 7, 8, 9}, 520: {6, 7, 8}, 265: {6, 7, 8}, 264: {6}, 263: {6}} {
		p, want := empty(t, g), empty(t, g)
		long(p, 2, 521)
		d, all := long(want, 2, 521)
		cut := blocks // the pointer to this block is lost
		all = append(tables, all[3:3+blocks]...)
		for _, x := range []*paper{p, want} {
			x.entries(3, names(1, 1, to(2, "d"))...)
		}
		if cut < 521 {
			block, at := 6, cut-8
			if cut >= 520 {
				block, at = 9, cut-520
			} else if cut >= 264 {
				block, at = 8, cut-264
			}
			copy(p.image[block*1024+at*4:], []byte{0, 0, 0, 0})
			l := dinode.Pointers(p.image[block*1024 : (block+1)*1024])
			if slices.Contains(tables, block) {
				want.table(block, l[:at]...)
			} else {
				want.table(block, l...) // nobody's now: it is as it was
			}
		}
		switch {
		case blocks <= 264:
			d.Double = 0
		case blocks <= 520:
			want.table(7, 8)
		}
		d.Size = blocks * 1024
		want.inode(2, d).inode(1, dir(3, 1024, 3)).used([]int{1, 2}, append(all, 3))
		p.becomes(want)
	}
}

func TestDirectoriesThatCannotBe(t *testing.T) {
	for _, d := range []api.Inode{dir(2, 1024), dir(2, 1023, 5), dir(2, 0, 5), dir(2, 2048, 0, 5), dir(2, 1024, 3), dir(2, 1024, 43), dir(2, 1024, 1)} {
		p := empty(t, small).entries(3, names(1, 1, to(2, "d"), to(2, "e"), to(3, "f"))...).inode(2, d).inode(3, file(0, 1024, 5))
		p.becomes(empty(t, small).entries(3, names(1, 1, api.Entry{}, api.Entry{}, to(3, "f"))...).
			inode(3, file(1, 1024, 5)).used([]int{1, 3}, []int{3, 5}))
	}
}

func TestEntriesThatAreFreed(t *testing.T) {
	bad := empty(t, small)
	bad.inode(2, file(1, 0)).inode(3, dir(2, 1024, 4)).inode(4, file(1, 1024, 9)).inode(5, file(1, 0)).
		entries(4, to(9, "."), to(2, "x"), to(1, "root"), to(3, "self"), to(5, "ok")).
		entries(3, to(2, "a"), to(2, "b"), to(2, "f"), to(2, "f"), to(5, "f"), to(2, "."), to(2, ".."), to(6, "free"), to(17, "none"),
			to(1<<32-1, "far"), to(1, "root"), to(3, "d"), to(3, "again"), to(4, "bytes"), to(2, "g"))
	bad.image[2*1024+3*64+60] = 1     // inode 4 is none
	bad.image[3*1024+2*32+4+20] = 1   // "f" is no entry: the one behind it stays
	bad.image[3*1024+14*32+4+1] = '/' // nor is "g"
	var o api.Entry
	want := empty(t, small).inode(1, dir(3, 1024, 3)).inode(2, file(1, 0)).inode(3, dir(2, 1024, 4)).inode(5, file(1, 0)).
		entries(4, names(3, 1, o, o, to(5, "ok"))...).
		entries(3, names(1, 1, o, to(2, "f"), o, o, o, o, o, o, o, to(3, "d"), o, o, o)...).
		used([]int{1, 2, 3, 5}, []int{3, 4})
	bad.becomes(want)
}

// TestTheDirectoryTakenInFirst: directories are gone over in the order in which they were taken in, and their parents are those that took them in.
func TestTheDirectoryTakenInFirst(t *testing.T) {
	p := empty(t, small).inode(1, dir(2, 1024, 3)).inode(2, dir(9, 1024, 4)).inode(3, dir(9, 1024, 5)).inode(4, dir(9, 1024, 6)).inode(5, dir(9, 1024, 7)).
		entries(3, names(1, 1, to(3, "x"), to(2, "y"))...).
		entries(4, names(2, 1, to(4, "late"), to(5, "p"))...).
		entries(5, names(3, 2, to(4, "soon"), to(2, "taken"))...).
		entries(6, names(4, 1, to(5, "late"))...).entries(7)
	var o api.Entry
	want := empty(t, small).inode(1, dir(4, 1024, 3)).inode(2, dir(3, 1024, 4)).inode(3, dir(3, 1024, 5)).inode(4, dir(2, 1024, 6)).inode(5, dir(2, 1024, 7)).
		entries(3, names(1, 1, to(3, "x"), to(2, "y"))...).
		entries(4, names(2, 1, o, to(5, "p"))...).
		entries(5, names(3, 1, to(4, "soon"), o)...).
		entries(6, names(4, 3, o)...).entries(7, names(5, 2)...).
		used([]int{1, 2, 3, 4, 5}, []int{3, 4, 5, 6, 7})
	p.becomes(want)
}

func TestWhatIsNotReachedIsFree(t *testing.T) {
	p := empty(t, small).inode(7, file(1, 1024, 9)).inode(8, dir(2, 1024, 10)).entries(10, names(8, 8, to(7, "f"))...).
		used([]int{1, 7, 8, 9}, []int{3, 9, 10, 11})
	p.fill(9, 7)
	p.image[1024+5], p.image[1024+1000] = 1, 1
	p.becomes(empty(t, small).entries(10, names(8, 8, to(7, "f"))...).fill(9, 7))
}

func TestHeadsOfMoreGroups(t *testing.T) {
	g := api.Geometry{Groups: 3, Inodes: 2, Data: 20} // 23 blocks a group; inode 40 in group 1, inode 96 the last one
	l := names(1, 1, to(40, "f"), to(96, "g"), to(97, "none"))
	p := empty(t, g).entries(4, l...).inode(40, file(1, 2048, 27, 69)).inode(96, file(1, 2048, 23, 24))
	p.becomes(empty(t, g).entries(4, l[:4]...).inode(40, file(1, 2048, 27, 69)).inode(96, file(1, 2048, 23)).
		used([]int{1, 40, 96}, []int{4, 27, 69, 23}))
}

func TestMaxLinks(t *testing.T) {
	g := api.Geometry{Groups: 2, Inodes: 1, Data: 1000}
	p, want := empty(t, g), empty(t, g)
	linked, dirs := 0, []int{1}
	root := names(1, 1)
	for _, x := range []*paper{p, want} {
		x.inode(20, file(1, 0)) // of the second group
	}
	var all []int
	for k := range 9 { // 9 directories of 120 blocks: more entries than a file may have links
		ino, first := 2+k, 100+120*k
		if k >= 7 {
			first += 200 // the head of the second group is block 1003
		}
		root = append(root, to(ino, strconv.Itoa(ino)))
		dirs = append(dirs, ino)
		d := dir(2, 120*1024)
		d.Single = 10 + k
		row := []int{}
		for n := range 120 {
			all = append(all, first+n)
			if n < 8 {
				d.Direct[n] = first + n
			} else {
				row = append(row, first+n)
			}
			was, is := make([]api.Entry, 0, 32), make([]api.Entry, 0, 32)
			if n == 0 {
				was, is = names(ino, 1), names(ino, 1)
			}
			for len(was) < 32 {
				e := to(20, strconv.Itoa(n*32+len(was)))
				was = append(was, e)
				if linked < api.MaxLinks {
					linked++
					is = append(is, e)
				}
			}
			p.entries(first+n, was...)
			want.entries(first+n, is...)
		}
		for _, x := range []*paper{p, want} {
			x.inode(ino, d).table(10+k, row...)
		}
		all = append(all, 10+k)
	}
	p.entries(3, root...)
	want.entries(3, root...).inode(1, dir(11, 1024, 3)).inode(20, file(api.MaxLinks, 0)).used(append(dirs, 20), append(all, 3))
	p.becomes(want)
}

// P1803

// TestRepairOfAnything: whatever lies there, it ends, and of its own answer it changes nothing.
func TestRepairOfAnything(t *testing.T) {
	draw := rand.New(rand.NewSource(1))
	for round := range 4000 {
		p := empty(t, api.Geometry{Groups: 1 + round%2, Inodes: 1 + round%3, Data: 8 + draw.Intn(60)})
		wreck(p, draw, draw.Intn(80))
		p.asRead()
	}
}

// TestRepairOfNearlyAnything: file systems of which little is wrong.
func TestRepairOfNearlyAnything(t *testing.T) {
	draw, told := rand.New(rand.NewSource(2)), map[int]int{}
	for round := range 1500 {
		p := empty(t, api.Geometry{Groups: 1 + round%2, Inodes: 1, Data: 20 + draw.Intn(60)})
		for range 3 { // a second file system is made of what was lost of the first one, and so on
			wreck(p, draw, 30)
			p.image, _, _ = Repair(p.image)
		}
		if n := p.asRead(); n != 0 {
			t.Fatalf("%d blocks are unlike in what was repaired", n)
		}
		for range draw.Intn(4) {
			p.image[1024+draw.Intn(len(p.image)-1024)] ^= 1 << draw.Intn(8)
		}
		told[p.asRead()]++
	}
	for n := range 3 {
		if told[n] == 0 {
			t.Errorf("no image of which %d blocks are unlike was drawn: %v", n, told)
		}
	}
}

// TestEachTurnedByte: of a file system in which a bit is turned anywhere in blocks of each kind.
func TestEachTurnedByte(t *testing.T) {
	p, _ := hurt(t)
	p.image, _, _ = Repair(p.image)
	for _, block := range []int{0, 1, 2, 4, 10, 25, 30} {
		for at := range 1024 {
			p.image[block*1024+at] ^= 1
			p.asRead()
			p.image[block*1024+at] ^= 1
		}
	}
}

// TestLongOnesThatAreHurt: some pointers of an inode with tables of all levels lead elsewhere.
func TestLongOnesThatAreHurt(t *testing.T) {
	draw := rand.New(rand.NewSource(3))
	for round := range 400 {
		p := empty(t, api.Geometry{Groups: 1, Inodes: 1, Data: 600})
		i, _ := long(p, 2, 521)
		p.entries(3, names(1, 1, to(2, "long"), to(3, "other"))...)
		p.inode(3, file(1, 3000, 6+draw.Intn(530), 6+draw.Intn(530), 6+draw.Intn(530)))
		sizes := []int{i.Size, i.Size - 1, i.Size + 5000, 520 * 1024, 264*1024 + 1, 264 * 1024, 263 * 1024, 8*1024 + 1023, 8 * 1024, api.MaxSize + 1}
		i.Kind, i.Size = api.File+round%2, sizes[draw.Intn(len(sizes))]
		p.inode(2, i)
		for range draw.Intn(4) {
			table := 6 + draw.Intn(4)
			at := draw.Intn(256)
			if table == 7 || table == 9 {
				at = draw.Intn(3) // where it has any
			}
			p.image[table*1024+at*4], p.image[table*1024+at*4+1] = byte(draw.Intn(256)), byte(draw.Intn(3))
		}
		p.asRead()
	}
}

// wreck writes inodes, pointers and entries that are half right all over an image, that many times, and mostly a root behind that, so that some of them are reached.
func wreck(p *paper, draw *rand.Rand, times int) {
	block := func() int { return draw.Intn(geom.Total(p.g) + 2) }
	ino := func() int { return 1 + draw.Intn(min(geom.Inodes(p.g)+3, 12)) }
	sizes := []int{0, 1, 1023, 1024, 1025, 2048, 8 * 1024, 9 * 1024, 264 * 1024, 265 * 1024, 520*1024 + 1, api.MaxSize, api.MaxSize + 1, 1<<32 - 1}
	drawNames := func(at int) {
		l := make([]api.Entry, 32)
		for range draw.Intn(33) {
			l[draw.Intn(32)] = to(ino(), strconv.Itoa(draw.Intn(40)))
		}
		p.entries(at, l...)
	}
	data := func() int {
		at, _ := geom.Data(p.g, draw.Intn(geom.Blocks(p.g)))
		return at
	}
	for range times {
		switch draw.Intn(7) {
		case 0, 1:
			l := make([]int, 256)
			for range draw.Intn(12) {
				l[draw.Intn(256)%(1+draw.Intn(256))] = block()
			}
			p.table(data(), l...)
		case 2, 3:
			drawNames(data())
		case 4, 5:
			i := api.Inode{Kind: 1 + draw.Intn(2), Links: draw.Intn(4), Size: sizes[draw.Intn(len(sizes))], Single: block(), Double: block()}
			for k := range draw.Intn(9) {
				i.Direct[k] = block()
			}
			p.inode(1+draw.Intn(min(geom.Inodes(p.g), 12)), i)
		default:
			for range 1 + draw.Intn(20) {
				p.image[1024+draw.Intn(len(p.image)-1024)] = byte(draw.Intn(256))
			}
		}
	}
	if draw.Intn(5) > 0 {
		root := dir(draw.Intn(4), sizes[3+draw.Intn(len(sizes)-3)], data(), block())
		p.inode(1, root)
		drawNames(root.Direct[0])
	}
}

func TestRepairAnswersNewMemory(t *testing.T) {
	p := empty(t, small).inode(1, dir(1, 1024, 3))
	given := bytes.Clone(p.image)
	fixed, unlike, _ := Repair(p.image)
	clear(fixed[:cap(fixed)])
	unlike[0] = 99
	if !bytes.Equal(given, p.image) {
		t.Error("it shares memory with the argument")
	}
	p.becomes(empty(t, small))
	room := append(given, 1, 2, 3) // the spare room of what is handed in
	if fixed, _, _ := Repair(room[:len(p.image)]); len(fixed) != len(p.image) || !bytes.Equal(room[len(p.image):], []byte{1, 2, 3}) {
		t.Error("the spare room of the argument was changed")
	}
}
