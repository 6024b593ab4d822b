package reader

import (
	"bytes"
	"fmt"
	"math/rand"
	"slices"
	"testing"
	"time"

	"lockgate/api"
	"lockgate/fsck"
	"lockgate/geom"
)

// both are the chapter's calls.
func both() []func([]byte) ([]api.Node, api.Errno) {
	return []func([]byte) ([]api.Node, api.Errno){Raw, Nodes}
}

// full is a file system with a bit of everything. Root (3) has d, e, and g, another name of f; d (8, then 7) has f and h; h is a directory in d (9) with a third name of f, i. The inodes' numbers do not rise the way the tree goes. 30 is nobody's.
func full(t testing.TB) *paper {
	f := tables(file(3, 530*1024+1, 0, 10), 11, 12)
	return empty(t, small).
		inode(1, dir(3, 1024, 3)).entries(3, names(1, 1, to(9, "d"), to(0, ""), to(3, "e"), to(5, "g"))...).
		inode(9, dir(3, 2048, 8, 7)).entries(8, names(9, 1)...).entries(7, to(0, ""), to(5, "f"), to(2, "h")).
		inode(2, dir(2, 1024, 9)).entries(9, append(names(2, 9), append(make([]api.Entry, 29), to(5, "i"))...)...).
		inode(3, file(1, 5)).
		inode(5, f).table(11, 13, 0, 14).table(12, 15, 16).table(15, 0, 17).table(16, 18).
		fill(10).fill(13).fill(14).fill(17).fill(18).fill(30).marked()
}

// fullNodes are its nodes by these numbers of d, h, e, f: the root, d, h, e, f.
func fullNodes(d, h, e, f int) []api.Node {
	root := api.Node{Ino: 1, Kind: api.Dir, Links: 3, Size: 1024, Slots: make([]api.Entry, 30)}
	root.Slots[0], root.Slots[2], root.Slots[3] = to(d, "d"), to(e, "e"), to(f, "g")
	nodeD := api.Node{Ino: d, Kind: api.Dir, Links: 3, Size: 2048, Slots: make([]api.Entry, 62)}
	nodeD.Slots[31], nodeD.Slots[32] = to(f, "f"), to(h, "h")
	nodeH := api.Node{Ino: h, Kind: api.Dir, Links: 2, Size: 1024, Slots: make([]api.Entry, 30)}
	nodeH.Slots[29] = to(f, "i")
	nodeE := api.Node{Ino: e, Kind: api.File, Links: 1, Size: 5}
	nodeF := api.Node{Ino: f, Kind: api.File, Links: 3, Size: 530*1024 + 1}
	for _, p := range [][2]int{{1, 10}, {8, 13}, {10, 14}, {265, 17}, {520, 18}} {
		nodeF.Blocks = append(nodeF.Blocks, api.Part{At: p[0], Data: filled(p[1])})
	}
	return []api.Node{root, nodeD, nodeH, nodeE, nodeF}
}

// P1901

func TestOfEmptyFileSystems(t *testing.T) {
	want := []api.Node{{Ino: 1, Kind: api.Dir, Links: 2, Size: 1024, Slots: make([]api.Entry, 30)}}
	for _, groups := range []int{1, 2, api.MaxGroups} {
		for _, inodes := range []int{1, api.MaxIB} {
			for _, data := range []int{8, 41, api.MaxData} {
				empty(t, api.Geometry{Groups: groups, Inodes: inodes, Data: data}).as(want, api.OK)
			}
		}
	}
}

func TestRaw(t *testing.T) {
	n := fullNodes(9, 2, 3, 5)
	full(t).as([]api.Node{n[0], n[2], n[3], n[4], n[1]}, api.OK)
}

func TestNodes(t *testing.T) {
	// d, e and f are in the root's slots; h comes behind them.
	n := fullNodes(2, 5, 3, 4)
	got, err := Nodes(full(t).image)
	same(t, "Nodes", got, []api.Node{n[0], n[1], n[3], n[4], n[2]})
	if err != api.OK {
		t.Error(err)
	}
}

func TestOfWhatIsNotUsable(t *testing.T) {
	whole := full(t).image
	long := append(bytes.Clone(whole), make([]byte, 1024)...)
	for _, image := range [][]byte{nil, {}, {'L'}, long, long[:len(long)-1], long[:len(whole)+1], whole[:len(whole)-1], whole[:len(whole)-1024], whole[:1024], whole[:1023], whole[1024:], make([]byte, len(whole))} {
		(&paper{t, small, image}).as(nil, api.ErrSuper)
	}
	for at := range 1024 {
		p := &paper{t, small, bytes.Clone(whole)}
		p.image[at] ^= 64
		p.as(nil, api.ErrSuper)
	}
	// Beside what else is wrong.
	p := full(t).inode(3, file(2, 5))
	p.image[0]++
	p.as(nil, api.ErrSuper)
}

// TestOfWhatIsNotClean: a turned byte anywhere but in blocks that have no format, and turned things of each kind.
func TestOfWhatIsNotClean(t *testing.T) {
	whole := full(t)
	loose := []int{10, 13, 14, 17, 18, 30}
	for _, block := range append(span(1, 18), 30) {
		for at := 0; at < 1024; at += 13 {
			p := &paper{t, small, bytes.Clone(whole.image)}
			p.image[block*1024+at] ^= 128
			_, unlike, _ := fsck.Repair(p.image)
			if len(unlike) > 0 {
				p.as(nil, api.ErrByte)
			} else {
				p.asPlain()
			}
			if len(unlike) > 0 && slices.Contains(loose, block) {
				t.Errorf("byte %d of block %d is a fault", at, block)
			}
		}
	}
	for name, turn := range map[string]func(*paper){
		"a bit too many":             func(p *paper) { p.image[1024+64+4] |= 1 },
		"a bit too few":              func(p *paper) { p.image[1024+64] &^= 16 },
		"an inode's bit":             func(p *paper) { p.image[1024+16] |= 8 },
		"links":                      func(p *paper) { p.inode(3, file(2, 5)) },
		"an inode that nobody names": func(p *paper) { p.inode(4, file(1, 5)) },
		"an inode that is none":      func(p *paper) { p.image[2*1024+3*64] = 3 },
		"a pointer behind the size":  func(p *paper) { p.inode(3, file(1, 5, 0, 30)) },
		"a block of two":             func(p *paper) { p.inode(3, file(1, 5, 10)) },
		"a hole in a directory":      func(p *paper) { p.inode(9, dir(3, 2048, 8)) },
		"a name twice":               func(p *paper) { p.entries(9, names(2, 9, to(5, "i"), to(5, "i"))...) },
		"a name of none":             func(p *paper) { p.entries(9, names(2, 9, to(6, "x"))...) },
		"dots":                       func(p *paper) { p.entries(9, to(2, "."), to(1, ".."), to(5, "i")) },
	} {
		t.Run(name, func(t *testing.T) {
			p := full(t)
			turn(p)
			p.as(nil, api.ErrByte)
		})
	}
}

// TestOfEachPlace: a file of one block, wherever its pointer stands.
func TestOfEachPlace(t *testing.T) {
	for _, n := range []int{0, 1, 7, 8, 9, 263, 264, 265, 519, 520, 775, 264 + 255*256, api.MaxBlocks - 1} {
		f := file(1, (n+1)*1024)
		p := empty(t, small)
		switch {
		case n < 8:
			f.Direct[n] = 30
		case n < 264:
			f.Single = 20
			p.table(20, append(make([]int, n-8), 30)...)
		default:
			f.Double = 20
			p.table(20, append(make([]int, (n-264)/256), 21)...).table(21, append(make([]int, (n-264)%256), 30)...)
		}
		p.inode(7, f).entries(3, names(1, 1, to(7, "f"))...).fill(30).marked()
		root := api.Node{Ino: 1, Kind: api.Dir, Links: 2, Size: 1024, Slots: append([]api.Entry{to(7, "f")}, make([]api.Entry, 29)...)}
		p.as([]api.Node{root, {Ino: 7, Kind: api.File, Links: 1, Size: (n + 1) * 1024, Blocks: []api.Part{{At: n, Data: filled(30)}}}}, api.OK)
	}
}

// TestOfAllPlaces: a file without a hole as long as there is room.
func TestOfAllPlaces(t *testing.T) {
	p := empty(t, middle)
	double := []int{12, 13}
	p.inode(2, tables(file(1, 690*1024, span(3+1, 3+8)...), 20, 21)).
		entries(3, names(1, 1, to(2, "f"))...).
		table(20, span(100, 355)...).
		table(21, double...).
		table(12, span(356, 611)...).
		table(13, span(612, 702)...)
	for block := 100; block <= 702; block++ {
		p.fill(block)
	}
	for block := 4; block <= 11; block++ {
		p.fill(block)
	}
	raw := p.marked().asPlain()
	f := raw[1]
	if len(f.Blocks) != 8+256+256+91 {
		t.Fatalf("%d blocks", len(f.Blocks))
	}
	for n, part := range f.Blocks {
		block := 100 + n - 8
		if n < 8 {
			block = 4 + n
		}
		if part.At != n || !bytes.Equal(part.Data, filled(block)) {
			t.Errorf("block %d: %d", n, part.At)
		}
	}
}

// TestOfSizes: the Size is told as it is; blocks are told whole, whatever ends within them, and holes not at all.
func TestOfSizes(t *testing.T) {
	for _, size := range []int{1, 512, 1023, 1024, 1025, 2048, 2049, 8192, 8193, api.MaxSize - 1, api.MaxSize} {
		p := empty(t, small).inode(2, file(1, size, 30)).entries(3, names(1, 1, to(2, "f"))...).fill(30).marked()
		n := p.asPlain()[1]
		if n.Size != size || len(n.Blocks) != 1 || n.Blocks[0].At != 0 || !bytes.Equal(n.Blocks[0].Data, filled(30)) {
			t.Errorf("%d: %+v", size, n)
		}
		p = empty(t, small).inode(2, file(1, size)).entries(3, names(1, 1, to(2, "f"))...).marked()
		if n := p.asPlain()[1]; n.Size != size || len(n.Blocks) != 0 || len(n.Slots) != 0 {
			t.Errorf("%d: %+v", size, n)
		}
	}
	p := empty(t, small).inode(2, file(1, 0)).entries(3, names(1, 1, to(2, "f"))...).marked()
	if n := p.asPlain()[1]; n.Size != 0 || len(n.Blocks) != 0 {
		t.Errorf("%+v", n)
	}
}

// TestOfTablesThatLeadToNothing: they are no blocks of the file.
func TestOfTablesThatLeadToNothing(t *testing.T) {
	p := empty(t, small).
		inode(2, tables(file(1, 900*1024), 20, 21)).table(20).table(21, 0, 22, 23).table(22).table(23, 0, 30).
		entries(3, names(1, 1, to(2, "f"))...).fill(30).marked()
	n := p.asPlain()[1]
	if len(n.Blocks) != 1 || n.Blocks[0].At != 264+2*256+1 || !bytes.Equal(n.Blocks[0].Data, filled(30)) {
		t.Errorf("%+v", n.Blocks)
	}
}

// TestOfLongDirectories: all slots of all blocks, on all levels, free ones too.
func TestOfLongDirectories(t *testing.T) {
	for _, blocks := range []int{1, 2, 8, 9, 263, 264, 265, 520, 521, 600} {
		p := empty(t, middle)
		d := dir(2, blocks*1024)
		var row []int // of the directory's blocks
		for n := range blocks {
			row = append(row, 50+n)
		}
		copy(d.Direct[:], row)
		if blocks > 8 {
			d.Single = 10
			p.table(10, row[8:min(blocks, 264)]...)
		}
		if blocks > 264 {
			d.Double = 11
			p.table(11, []int{12, 13}[:(blocks-264+255)/256]...).table(12, row[264:min(blocks, 520)]...)
		}
		if blocks > 520 {
			p.table(13, row[520:]...)
		}
		want := make([]api.Entry, blocks*32)
		copy(want, names(2, 1))
		for n := range blocks {
			want[n*32+n%30+2] = to(3, fmt.Sprint("n", n))
			want[n*32+31] = to(3, fmt.Sprint("last", n))
			p.entries(50+n, want[n*32:n*32+32]...)
		}
		links := 0
		for _, e := range want {
			if e.Ino == 3 {
				links++
			}
		}
		root := append([]api.Entry{to(2, "d")}, make([]api.Entry, 29)...)
		p.inode(1, dir(3, 1024, 3)).entries(3, names(1, 1, to(2, "d"))...).inode(2, d).inode(3, file(links, 0)).marked().as([]api.Node{
			{Ino: 1, Kind: api.Dir, Links: 3, Size: 1024, Slots: root},
			{Ino: 2, Kind: api.Dir, Links: 2, Size: blocks * 1024, Slots: want[2:]},
			{Ino: 3, Kind: api.File, Links: links},
		}, api.OK)
	}
}

// TestOfALongRoot: of the root, too, the first two entries are no slots.
func TestOfALongRoot(t *testing.T) {
	p := empty(t, small).inode(1, dir(2, 3*1024, 3, 5, 4)).
		entries(3, names(1, 1, to(0, ""), to(2, "."+"a"))...).
		entries(5, to(2, "b"), to(2, "c")).
		entries(4, append(make([]api.Entry, 31), to(2, "z"))...).
		inode(2, file(4, 0)).marked()
	n := p.asPlain()[0]
	for at, want := range map[int]api.Entry{0: {}, 1: to(2, ".a"), 2: {}, 30: to(2, "b"), 31: to(2, "c"), 93: to(2, "z")} {
		if n.Slots[at] != want {
			t.Errorf("slot %d: %v", at, n.Slots[at])
		}
	}
	if len(n.Slots) != 94 {
		t.Errorf("%d slots", len(n.Slots))
	}
}

func TestOfNames(t *testing.T) {
	all := []api.Entry{to(2, "a b"), to(2, "\xff\x01\n"), to(2, "..."), to(2, ".a"), to(2, "ü"), to(2, "%20"), to(2, "abcdefghijklmnopqrstuvwxyz0"), to(2, "A"), to(2, "a")}
	p := empty(t, small).entries(3, names(1, 1, all...)...).inode(2, file(len(all), 0)).marked()
	if got := p.asPlain()[0].Slots[:len(all)]; !slices.Equal(got, all) {
		t.Errorf("%v", got)
	}
}

// TestOfManyLinks: as many as a file may have.
func TestOfManyLinks(t *testing.T) {
	p := empty(t, api.Geometry{Groups: 2, Inodes: 1, Data: 600})
	blocks := (2 + api.MaxLinks + 31) / 32
	all := names(1, 1)
	for n := range api.MaxLinks {
		all = append(all, to(20, fmt.Sprint(n)))
	}
	var row []int
	for n := range blocks {
		row = append(row, p.data(n))
		p.entries(p.data(n), all[n*32:min(n*32+32, len(all))]...)
	}
	double, two := p.data(1100), []int{p.data(1101), p.data(1102), p.data(1103)}
	p.inode(1, tables(dir(2, blocks*1024, row[:8]...), p.data(1104), double)).
		table(p.data(1104), row[8:264]...).table(double, two...).
		table(two[0], row[264:520]...).table(two[1], row[520:776]...).table(two[2], row[776:]...).
		inode(20, file(api.MaxLinks, 0))
	raw := p.marked().asPlain()
	if len(raw) != 2 || raw[1].Links != api.MaxLinks || raw[0].Slots[api.MaxLinks-1] != to(20, fmt.Sprint(api.MaxLinks-1)) {
		t.Errorf("%d nodes, %d links", len(raw), raw[1].Links)
	}
}

// TestOfGroups: inodes and blocks of all groups, by rising number, those that are Free left out.
func TestOfGroups(t *testing.T) {
	p := empty(t, api.Geometry{Groups: 3, Inodes: 2, Data: 20})
	inos := []int{2, 15, 16, 17, 32, 33, 64, 65, 95, 96}
	var l []api.Entry
	for n, ino := range slices.Backward(inos) {
		l = append(l, to(ino, fmt.Sprint(ino)))
		p.inode(ino, file(1, 2048, 0, p.data(4+5*n))).fill(p.data(4 + 5*n))
	}
	raw := p.entries(3+1, names(1, 1, l...)...).marked().asPlain()
	var got []int
	for _, n := range raw {
		got = append(got, n.Ino)
	}
	if want := append([]int{1}, inos...); !slices.Equal(got, want) {
		t.Errorf("%v, not %v", got, want)
	}
	for n := range inos {
		if part := raw[1+n].Blocks[0]; part.At != 1 || !bytes.Equal(part.Data, filled(p.data(4+5*n))) {
			t.Errorf("of %d block %d", raw[1+n].Ino, part.At)
		}
	}
}

// TestOfADeepTree: each directory's number is the next one, however its inode's goes.
func TestOfADeepTree(t *testing.T) {
	p := empty(t, small)
	parent, block := 1, 3
	for _, ino := range []int{16, 4, 9, 2, 15, 3} {
		l := names(parent, parent, to(0, ""), to(ino, fmt.Sprint(ino)))
		links := 3
		if parent != 1 {
			l[1].Ino = map[int]int{16: 1, 4: 16, 9: 4, 2: 9, 15: 2}[parent]
		}
		p.entries(block, l...).inode(parent, dir(links, 1024, block))
		parent, block = ino, block+1
	}
	raw := p.entries(block, names(3, 15)...).inode(3, dir(2, 1024, block)).marked().asPlain()
	nodes, _ := Nodes(p.image)
	for k, n := range nodes {
		if n.Ino != k+1 || k < 6 && n.Slots[1].Ino != k+2 {
			t.Errorf("%+v", n)
		}
	}
	if len(raw) != 7 || raw[6].Ino != 16 || raw[6].Slots[1] != to(4, "4") {
		t.Errorf("%+v", raw)
	}
}

// TestOfDrawnImages: whatever a repair makes of drawn images.
func TestOfDrawnImages(t *testing.T) {
	nodes, blocks := 0, 0
	for seed := range 1500 {
		draw := rand.New(rand.NewSource(int64(seed)))
		g := []api.Geometry{small, {Groups: 3, Inodes: 1, Data: 12}, {Groups: 1, Inodes: 2, Data: 100}}[seed%3]
		p := empty(t, g)
		drawOn(p, draw)
		p.image, _, _ = fsck.Repair(p.image)
		for _, n := range p.asPlain() {
			nodes++
			blocks += len(n.Blocks)
		}
	}
	if nodes < 6*1500 || blocks < 10*1500 {
		t.Errorf("%d nodes of %d blocks in all: the images are too poor", nodes, blocks)
	}
}

// drawOn draws files, directories and tables that lead to blocks of all kinds.
func drawOn(p *paper, draw *rand.Rand) {
	block := func() int { return p.data(draw.Intn(geom.Blocks(p.g))) }
	some := func(most int) []int {
		row := make([]int, draw.Intn(most))
		for i := range row {
			if draw.Intn(3) > 0 {
				row[i] = block()
			}
		}
		return row
	}
	inodes := geom.Inodes(p.g)
	for range 6 {
		p.fill(block())
	}
	for range 8 {
		p.table(block(), some(10)...)
	}
	var starts []int // of directories
	for ino := 1; ino <= inodes; ino++ {
		i := file(draw.Intn(5), draw.Intn(600*1024), some(9)...)
		if draw.Intn(4) == 0 {
			i.Size = draw.Intn(12000)
		}
		if ino == 1 || draw.Intn(3) == 0 {
			i.Kind, i.Size, i.Direct[0] = api.Dir, i.Size+1024, block()
			starts = append(starts, i.Direct[0])
		}
		i.Single, i.Double = block(), block()
		p.inode(ino, i)
	}
	for n := range 10 {
		var l []api.Entry
		for range 2 + draw.Intn(30) {
			if draw.Intn(2) == 0 {
				l = append(l, api.Entry{})
			} else {
				l = append(l, to(1+draw.Intn(inodes), string(rune('a'+draw.Intn(20)))))
			}
		}
		at := block()
		if n < len(starts) {
			at = starts[n]
		}
		p.entries(at, l...)
	}
}

// TestOfALargeImage: as many inodes and blocks as there may be, in little time.
func TestOfALargeImage(t *testing.T) {
	p := empty(t, large)
	all := names(1, 1)
	next := 20
	for ino := 2; ino <= geom.Inodes(large); ino++ {
		all = append(all, to(ino, fmt.Sprint("f", ino)))
		i := file(1, api.MaxSize)
		for k := range i.Direct {
			i.Direct[k] = p.data(next + k)
		}
		i.Single = p.data(next + 8)
		p.table(p.data(next+8), p.data(next+9), 0, p.data(next+10), p.data(next+11)).inode(ino, i)
		for k := range 12 {
			if k != 8 {
				p.fill(p.data(next + k))
			}
		}
		next += 12
	}
	blocks := (len(all) + 31) / 32
	for n := range blocks {
		p.entries(p.data(n), all[n*32:min(n*32+32, len(all))]...)
	}
	row := make([]int, blocks)
	for n := range row {
		row[n] = p.data(n)
	}
	p.inode(1, tables(dir(2, blocks*1024, row[:8]...), p.data(19), 0)).table(p.data(19), row[8:]...).marked()
	begin := time.Now()
	raw, err := Raw(p.image)
	if took := time.Since(begin); took > 5*time.Second {
		t.Errorf("took %v", took)
	}
	if err != api.OK || len(raw) != geom.Inodes(large) {
		t.Fatalf("%d, %d nodes", err, len(raw))
	}
	p.asPlain()
}

// P1902

func TestAnswersAreNewMemory(t *testing.T) {
	p := full(t)
	given := bytes.Clone(p.image)
	for _, read := range both() {
		want, _ := read(bytes.Clone(p.image))
		first, _ := read(p.image)
		got, _ := read(p.image)
		for k := range got {
			slots, blocks := got[k].Slots[:cap(got[k].Slots)], got[k].Blocks[:cap(got[k].Blocks)]
			for i := range slots {
				slots[i] = to(99, "x")
			}
			for i := range blocks {
				data := blocks[i].Data[:cap(blocks[i].Data)]
				for at := range data {
					data[at] = 99
				}
			}
			// Of the others of the same answer none is changed.
			same(t, "the rest", got[k+1:], want[k+1:])
		}
		again, _ := read(p.image)
		same(t, "again", again, want)
		same(t, "the one ahead", first, want)
		if !bytes.Equal(p.image, given) {
			t.Fatal("the image is changed")
		}
	}
}

// TestNothingIsKept: neither what was handed in nor what was answered.
func TestNothingIsKept(t *testing.T) {
	for _, read := range both() {
		p := full(t)
		got, _ := read(p.image)
		want, _ := read(full(t).image)
		clear(p.image)
		same(t, "behind a change of the image", got, want)
		if l, err := read(p.image); err != api.ErrSuper || len(l) != 0 {
			t.Errorf("%d, %v", err, l)
		}
	}
}
