package scan

import (
	"bytes"
	"math/rand"
	"slices"
	"strconv"
	"testing"
	"time"

	"lockgate/api"
	"lockgate/geom"
	"lockgate/rules"
)

// P1701, P1702

func TestOfAnEmptyFileSystem(t *testing.T) {
	for _, groups := range []int{1, 2, 7, api.MaxGroups} {
		for _, inodes := range []int{1, 3, api.MaxIB} {
			for _, data := range []int{8, 9, 40, api.MaxData} {
				empty(t, api.Geometry{Groups: groups, Inodes: inodes, Data: data}).has(0)
			}
		}
	}
}

func TestOfWhatIsNotUsable(t *testing.T) {
	whole := empty(t, small)
	long := append(bytes.Clone(whole.image), make([]byte, 1024)...)
	for _, image := range [][]byte{nil, {}, {'L'}, long, long[:len(long)-1], long[:len(whole.image)+1], whole.image[:len(whole.image)-1],
		whole.image[:len(whole.image)-1024], whole.image[:1024], whole.image[:1023], whole.image[1024:], make([]byte, 43*1024)} {
		(&paper{t, small, image}).has(-1)
	}
	for _, at := range []int{0, 7, 8, 12, 16, 20, 23, 24, 1023} { // the letters, the numbers, their sum, the bytes behind
		whole.copy().turn(0, at).has(-1)
	}
	// A superblock of another geometry: one block less, one more, as many blocks.
	for _, g := range []api.Geometry{{Groups: 1, Inodes: 1, Data: 39}, {Groups: 1, Inodes: 1, Data: 41}} {
		p := whole.copy()
		copy(p.image[:1024], empty(t, g).image)
		p.has(-1)
	}
	p := whole.copy()
	copy(p.image[:1024], empty(t, api.Geometry{Groups: 1, Inodes: 2, Data: 39}).image)
	p.has(p.asRepaired())
	if Clean(p.image) {
		t.Error("the image of another geometry is Clean")
	}
	// Beside what else is wrong.
	whole.copy().turn(0, 1).turn(1, 64).turn(2, 2).has(-1)
}

func TestOfTheExample(t *testing.T) {
	if n := Faults(empty(t, api.Geometry{Groups: 1, Inodes: 1, Data: 8}).image); n != 0 {
		t.Errorf("mkfs' image: %d", n)
	}
}

// full is a file system with a bit of everything. Root (3) has d, an f of two links, g with tables, h of a hole; d (4, 5) has f, e (6). 30 is nobody's.
//
// g's blocks are 10 to 17; its Single is 18, with 19; its Double is 20, with 21, with 22.
func full(t testing.TB) *paper {
	g := tables(file(1, 270*1024, 10, 11, 12, 13, 14, 15, 16, 17), 18, 20)
	p := empty(t, small).
		inode(1, dir(3, 1024, 3)).entries(3, names(1, 1, to(2, "d"), api.Entry{}, to(4, "f"), to(5, "g"), to(6, "h"))...).
		inode(2, dir(3, 2048, 4, 5)).entries(4, names(2, 1, to(4, "F"))...).entries(5, api.Entry{}, to(3, "e")).
		inode(3, dir(2, 1024, 6)).entries(6, names(3, 2)...).
		inode(4, file(2, 1500, 7, 8)).inode(5, g).table(18, 19).table(20, 21).table(21, 0, 0, 22).
		inode(6, file(1, 3000, 0, 9))
	return p.used([]int{1, 2, 3, 4, 5, 6}, append(span(3, 22), 9)).fill(7, 7).fill(9, 9).fill(19, 1).fill(22, 2).fill(30, 3)
}

// span are the numbers of a row.
func span(from, to int) []int {
	var l []int
	for n := from; n <= to; n++ {
		l = append(l, n)
	}
	return l
}

func TestOfAFullFileSystem(t *testing.T) { full(t).has(0) }

// TestOfBlocksWithoutFormat: what lies in files' blocks, and in those that nobody has, is no fault.
func TestOfBlocksWithoutFormat(t *testing.T) {
	for _, block := range []int{7, 8, 9, 10, 17, 19, 22, 23, 30, 42} {
		full(t).fill(block, 255).has(0)
		full(t).turn(block, 0).has(0)
		full(t).turn(block, 1023).has(0)
	}
}

// TestOfOneFault: a block counts once, however much of it is wrong; the blocks behind what is lost count too.
func TestOfOneFault(t *testing.T) {
	for name, x := range map[string]struct {
		turn func(*paper)
		want int
	}{
		"head, letters":                    {func(p *paper) { p.turn(1, 0) }, 1},
		"head, group":                      {func(p *paper) { p.turn(1, 2) }, 1},
		"head, ahead of the bits":          {func(p *paper) { p.turn(1, 15) }, 1},
		"head, an inode's bit":             {func(p *paper) { p.turn(1, 16) }, 1},
		"head, an inode's that is none":    {func(p *paper) { p.turn(1, 23) }, 1},
		"head, a block's bit":              {func(p *paper) { p.turn(1, 64) }, 1},
		"head, a block's that is none":     {func(p *paper) { p.turn(1, 69) }, 1},
		"head, its last byte":              {func(p *paper) { p.turn(1, 1023) }, 1},
		"head, all of it":                  {func(p *paper) { p.fill(1, 255) }, 1},
		"links too few":                    {func(p *paper) { p.inode(4, file(1, 1500, 7, 8)) }, 1},
		"links too many":                   {func(p *paper) { p.inode(4, file(3, 1500, 7, 8)) }, 1},
		"links of a directory":             {func(p *paper) { p.inode(2, dir(2, 2048, 4, 5)) }, 1},
		"two inodes of a block":            {func(p *paper) { p.inode(1, dir(9, 1024, 3)).inode(4, file(9, 1500, 7, 8)) }, 1},
		"size of a directory":              {func(p *paper) { p.inode(3, dir(2, 1025, 6)) }, 1},
		"size of a file, above the most":   {func(p *paper) { p.inode(6, file(1, api.MaxSize+1, 0, 9)) }, 1},
		"size of a file, the most":         {func(p *paper) { p.inode(6, file(1, api.MaxSize, 0, 9)) }, 0},
		"a pointer that is none":           {func(p *paper) { p.inode(6, file(1, 3000, 2, 9)) }, 1},
		"a pointer behind the size":        {func(p *paper) { p.inode(6, file(1, 3000, 0, 9, 0, 30)) }, 1},
		"a pointer to another's block":     {func(p *paper) { p.inode(6, file(1, 3000, 7, 9)) }, 1},
		"a block that is not marked":       {func(p *paper) { p.inode(6, file(1, 3000, 30, 9)) }, 1},
		"an inode that nobody names":       {func(p *paper) { p.inode(7, file(1, 0)) }, 1},
		"and its bit":                      {func(p *paper) { p.inode(7, file(1, 0)).used(span(1, 7), span(3, 22)) }, 2},
		"bytes of no inode":                {func(p *paper) { p.turn(2, 15*64+60) }, 1},
		"the Single's pointer, behind":     {func(p *paper) { p.inode(5, tables(file(1, 8*1024, 10, 11, 12, 13, 14, 15, 16, 17), 18, 0)) }, 2},
		"a Single's pointer that is none":  {func(p *paper) { p.table(18, 19, 0, 43) }, 1},
		"a Single's pointer that is lost":  {func(p *paper) { p.table(18) }, 1},
		"a Double's pointer, behind":       {func(p *paper) { p.table(20, 21, 30) }, 1},
		"the lowest pointer, behind":       {func(p *paper) { p.table(21, 0, 0, 22, 0, 0, 0, 30) }, 1},
		"the lowest pointer, another's":    {func(p *paper) { p.table(21, 7, 0, 22) }, 1},
		"dots":                             {func(p *paper) { p.turn(6, 0) }, 1},
		"dots of the parent":               {func(p *paper) { p.turn(6, 32) }, 1},
		"no dots":                          {func(p *paper) { p.entries(6) }, 1},
		"dots in the next block":           {func(p *paper) { p.entries(5, to(2, "."), to(3, "e")) }, 1},
		"bytes of no entry":                {func(p *paper) { p.turn(3, 1023) }, 1},
		"an entry of a Free inode":         {func(p *paper) { p.entries(6, names(3, 2, to(7, "x"))...) }, 1},
		"an entry of no inode":             {func(p *paper) { p.entries(6, names(3, 2, to(17, "x"))...) }, 1},
		"an entry of the root":             {func(p *paper) { p.entries(6, names(3, 2, to(1, "x"))...) }, 1},
		"a name twice":                     {func(p *paper) { p.entries(5, to(4, "F"), to(3, "e")) }, 1},
		"a second entry of a directory":    {func(p *paper) { p.entries(5, to(3, "E"), to(3, "e")) }, 1},
		"an entry that is lost":            {func(p *paper) { p.entries(5) }, 2},
		"a link that is lost, and counted": {func(p *paper) { p.entries(4, names(2, 1)...).inode(4, file(1, 1500, 7, 8)) }, 0},
		"three blocks":                     {func(p *paper) { p.turn(1, 16).turn(1, 64).turn(2, 2).turn(2, 66).turn(6, 0).turn(6, 32) }, 3},
	} {
		t.Run(name, func(t *testing.T) {
			p := full(t)
			x.turn(p)
			p.has(x.want)
		})
	}
}

// TestOfTheRoot: a root that is made anew leads nowhere, and lies in the first data block.
func TestOfTheRoot(t *testing.T) {
	// Its inode, its head and its block; no names lead on then.
	for _, root := range []api.Inode{{}, file(3, 1024, 3), dir(3, 1023, 3), dir(3, 1024, 0), dir(3, 1024, 2), dir(3, 1024, 43)} {
		full(t).inode(1, root).has(3)
	}
	full(t).turn(2, 60).has(3) // bytes of no inode
	full(t).turn(3, 0).has(1)
	// Elsewhere than mkfs lays it: Clean as well.
	p := empty(t, small).inode(1, dir(2, 1024, 20)).entries(20, names(1, 1)...)
	p.has(1)
	p.used([]int{1}, []int{20}).has(0)
	p.fill(3, 255).has(0)
}

// TestOfEachGroup: each head and each block of inodes is one of the blocks, the last block too.
func TestOfEachGroup(t *testing.T) {
	g := api.Geometry{Groups: 3, Inodes: 2, Data: 20} // 23 blocks a group
	p, n := empty(t, g), 0
	for _, block := range []int{1, 24, 47} {
		for _, b := range []int{block, block + 1, block + 2} {
			if b == 2 {
				continue // Root's
			}
			empty(t, g).turn(b, 60).has(1)
			n++
			p.turn(b, 60).has(n)
		}
	}
	last := geom.Total(g) - 1
	p = empty(t, g).inode(1, dir(2, 2048, 4, last)).used([]int{1}, []int{4, last})
	p.has(0)
	p.turn(last, 1023).has(1)
}

// TestOfEachTurnedByte: of a bit that is turned anywhere in blocks of each kind.
func TestOfEachTurnedByte(t *testing.T) {
	p := full(t)
	for _, block := range []int{0, 1, 2, 3, 5, 7, 18, 20, 21, 30} {
		for at := range 1024 {
			p.turn(block, at)
			want := p.asRepaired()
			if got := Faults(p.image); got != want || Clean(p.image) != (want == 0) {
				t.Fatalf("block %d, byte %d: %d, must be %d", block, at, got, want)
			}
			p.turn(block, at)
		}
	}
}

// TestOfManyFaults: as many blocks as may be wrong on the greatest disk.
func TestOfManyFaults(t *testing.T) {
	p, turned := empty(t, large), 0
	for group := range large.Groups {
		head, _ := geom.Head(large, group)
		for block := head; block <= head+large.Inodes; block++ {
			p.turn(block, 63) // also of Root's inode, which is none then
			turned++
		}
	}
	p.has(turned)
	first, _ := geom.Data(large, 0)
	p.turn(first, 0).has(turned + 1)
}

// TestOfALongDirectory: a directory with tables of each level, whole, and with a hole at each of its edges.
func TestOfALongDirectory(t *testing.T) {
	g := api.Geometry{Groups: 1, Inodes: 1, Data: 600}
	const blocks = 8 + 256 + 256 + 2
	p := empty(t, g).inode(1, dir(3, 1024, 3)).entries(3, names(1, 1, to(2, "d"))...).entries(10, names(2, 1)...)
	l := span(10, 10+blocks-1)
	d := tables(dir(2, blocks*1024, l[:8]...), 4, 5)
	p.inode(2, d).table(4, l[8:264]...).table(5, 6, 7).table(6, l[264:520]...).table(7, l[520:]...)
	p.used([]int{1, 2}, slices.Concat(span(3, 7), l))
	p.has(0)
	// The head, the block of inodes, and each table that stays and loses more than the hole.
	for _, x := range []struct{ block, hole, want int }{
		{4, 0, 2}, {4, 1, 3}, {4, 255, 2}, {6, 0, 2}, {6, 1, 4}, {6, 255, 3}, {7, 0, 3}, {7, 1, 2},
	} {
		q := p.copy()
		clear(q.image[x.block*1024+4*x.hole : x.block*1024+4*x.hole+4])
		q.has(x.want)
	}
}

// TestOfManyLinks: a file may have MaxLinks links, and no more.
func TestOfManyLinks(t *testing.T) {
	g := api.Geometry{Groups: 2, Inodes: 1, Data: 1000}
	for _, links := range []int{api.MaxLinks - 1, api.MaxLinks, api.MaxLinks + 1} {
		p := empty(t, g)
		blocks := manyNames(p, links)
		p.inode(2, file(links, 0)).used(append(span(1, 2), span(3, 2+len(blocks.dirs))...), blocks.all)
		over := 0
		if links > api.MaxLinks {
			over = 2 // the inode's block, and that of the last entry
		}
		p.has(over)
	}
}

type laid struct{ dirs, all []int }

// manyNames lays directories below Root, 200 blocks each, whose entries name inode 2 that many times.
func manyNames(p *paper, names int) laid {
	var out laid
	root := []api.Entry{to(1, "."), to(1, "..")}
	next := 0
	data := func() int {
		block, _ := geom.Data(p.g, 1+next)
		next++
		out.all = append(out.all, block)
		return block
	}
	out.all = append(out.all, 3)
	for ino := 3; names > 0; ino++ {
		out.dirs = append(out.dirs, ino)
		root = append(root, to(ino, strconv.Itoa(ino)))
		d, row := dir(2, 0), []int{}
		for n := 0; n < 200 && names > 0; n++ {
			if n == 8 {
				d.Single = data()
			}
			block := data()
			if n < 8 {
				d.Direct[n] = block
			} else {
				row = append(row, block)
			}
			d.Size += 1024
			var l []api.Entry
			if n == 0 {
				l = append(l, to(ino, "."), to(1, ".."))
			}
			for ; len(l) < 32 && names > 0; names-- {
				l = append(l, to(2, strconv.Itoa(names)))
			}
			p.entries(block, l...)
		}
		p.inode(ino, d)
		if len(row) > 0 {
			p.table(d.Single, row...)
		}
	}
	p.entries(3, root...).inode(1, dir(2+len(out.dirs), 1024, 3))
	return out
}

// TestOfDrawnImages holds wrecks of all kinds against what a repair makes of them (which the tests of package fsck hold against a plain reading of its chapter).
func TestOfDrawnImages(t *testing.T) {
	draw := rand.New(rand.NewSource(17))
	told := map[int]int{}
	for round := range 2500 {
		g := api.Geometry{Groups: 1 + round%2, Inodes: 1 + round%3, Data: 8 + draw.Intn(60)}
		p := empty(t, g)
		if round%4 == 0 {
			p = full(t)
		}
		wreck(p, draw)
		want := p.asRepaired()
		p.has(want)
		told[min(want, 10)]++
	}
	for n := range 10 {
		if told[n] == 0 {
			t.Errorf("no image of %d faults was drawn: %v", n, told)
		}
	}
}

// wreck writes inodes, pointers and entries that are half right all over an image.
func wreck(p *paper, draw *rand.Rand) {
	block := func() int { return draw.Intn(geom.Total(p.g) + 2) }
	ino := func() int { return 1 + draw.Intn(min(geom.Inodes(p.g)+3, 12)) }
	sizes := []int{0, 1, 1023, 1024, 1025, 2048, 8 * 1024, 9 * 1024, 264 * 1024, 265 * 1024, 520 * 1024, 521 * 1024, api.MaxSize, api.MaxSize + 1, 1<<32 - 1}
	for range draw.Intn(1 + draw.Intn(80)) {
		at, _ := geom.Data(p.g, draw.Intn(geom.Blocks(p.g)))
		switch draw.Intn(7) {
		case 0, 1:
			l := make([]int, 256)
			for range draw.Intn(12) {
				l[draw.Intn(256)%(1+draw.Intn(256))] = block()
			}
			p.table(at, l...)
		case 2, 3:
			l := make([]api.Entry, 32)
			for range draw.Intn(33) {
				l[draw.Intn(32)] = to(ino(), strconv.Itoa(draw.Intn(40)))
			}
			p.entries(at, l...)
		case 4, 5:
			i := tables(dir(draw.Intn(4), sizes[draw.Intn(len(sizes))]), block(), block())
			i.Kind = 1 + draw.Intn(2)
			for k := range draw.Intn(9) {
				i.Direct[k] = block()
			}
			p.inode(1+draw.Intn(min(geom.Inodes(p.g), 12)), i)
		default:
			for range 1 + draw.Intn(20) {
				p.image[1024+draw.Intn(len(p.image)-1024)] = byte(draw.Intn(256))
			}
		}
	}
}

// TestCleanKeepsTheRules: P1702 of images of which nearly all is right.
func TestCleanKeepsTheRules(t *testing.T) {
	draw := rand.New(rand.NewSource(1702))
	clean := 0
	for range 4000 {
		p := full(t)
		for range draw.Intn(3) {
			p.image[1024+draw.Intn(len(p.image)-1024)] = byte(draw.Intn(256))
		}
		if Clean(p.image) {
			clean++
			if rule := rules.Check(p.image); rule != 0 {
				t.Fatalf("a Clean image breaks rule %d", rule)
			}
		}
	}
	if clean < 100 || clean > 3900 {
		t.Errorf("%d of them are Clean: the test tells little", clean)
	}
}

// TestOfTheWorst: 500 directories that all lead to the same 65,792 pointers, and lose them again, are told in bounded time.
func TestOfTheWorst(t *testing.T) {
	p := empty(t, large)
	data := func(n int) int {
		block, _ := geom.Data(large, n)
		return block
	}
	var upper, lower []int
	for k := range 256 {
		upper, lower = append(upper, data(5000+k)), append(lower, data(6000+k))
	}
	for _, block := range upper {
		p.table(block, lower...)
	}
	p.table(data(4000), upper...)
	r, row := dir(2, 17*1024), []int{}
	for k := range 17 { // blocks of the root
		var l []api.Entry
		if k == 0 {
			l = names(1, 1)
		}
		for ino := 2 + 30*k; ino < 2+30*k+30; ino++ {
			l = append(l, to(ino, strconv.Itoa(ino)))
			p.inode(ino, tables(dir(2, api.MaxSize, data(ino)), 0, data(4000)))
		}
		p.entries(data(1000+k), l...)
		if k < 8 {
			r.Direct[k] = data(1000 + k)
		} else {
			row = append(row, data(1000+k))
		}
	}
	p.inode(1, tables(r, data(999), 0)).table(data(999), row...)
	start := time.Now()
	n := Faults(p.image)
	if took := time.Since(start); took > 20*time.Second {
		t.Errorf("it took %v", took)
	}
	// The heads, the blocks of inodes, and those of the directories' entries.
	if want := 8 + 32 + 510; n != want {
		t.Errorf("%d faults, must be %d", n, want)
	}
}
