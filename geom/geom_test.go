package geom

import (
	"math"
	"testing"

	"lockgate/api"
)

// place is what lies in a block: what the tests compare with is a disk that is laid out block by block.
type place struct {
	kind         byte // 's' the superblock, 'h' a head, 'i' inodes, 'd' a data block
	group, first int  // first: of a block of inodes the first one's number, of a data block its number
}

func layOut(g api.Geometry) []place {
	disk := []place{{kind: 's'}}
	ino, data := 1, 0
	for group := 0; group < g.Groups; group++ {
		disk = append(disk, place{kind: 'h', group: group})
		for i := 0; i < g.Inodes; i++ {
			disk = append(disk, place{'i', group, ino})
			ino += 16
		}
		for i := 0; i < g.Data; i++ {
			disk = append(disk, place{'d', group, data})
			data++
		}
	}
	return disk
}

// fine are geometries that Check takes, the least and the greatest among them.
func fine() []api.Geometry {
	var out []api.Geometry
	for _, groups := range []int{1, 2, 3, 7, 8} {
		for _, inodes := range []int{1, 2, 3, 4} {
			for _, data := range []int{8, 9, 10, 64, 999, 1000} {
				out = append(out, api.Geometry{Groups: groups, Inodes: inodes, Data: data})
			}
		}
	}
	return out
}

// refused are geometries that break one bound each, or several.
func refused() []api.Geometry {
	out := []api.Geometry{{}, {Groups: 1}, {Inodes: 1}, {Data: 8}}
	far := []int{-1, math.MinInt, math.MaxInt, math.MinInt + 1, 1 << 40, -(1 << 40)}
	for _, n := range append([]int{0, 9}, far...) {
		out = append(out, api.Geometry{Groups: n, Inodes: 1, Data: 8}, api.Geometry{Groups: n, Inodes: n, Data: n})
	}
	for _, n := range append([]int{0, 5}, far...) {
		out = append(out, api.Geometry{Groups: 1, Inodes: n, Data: 8}, api.Geometry{Groups: 8, Inodes: n, Data: 1000})
	}
	for _, n := range append([]int{0, 1, 7, 1001}, far...) {
		out = append(out, api.Geometry{Groups: 1, Inodes: 1, Data: n}, api.Geometry{Groups: 8, Inodes: 4, Data: n})
	}
	return out
}

// odd are numbers far off whatever a disk has.
func odd() []int {
	return []int{-1, -2, -16, -17, math.MinInt, math.MinInt + 1, math.MinInt + 16, 1 << 31, 1 << 40, 1 << 62, math.MaxInt - 1, math.MaxInt}
}

// P301

func TestCheckTakesEachThatMayBe(t *testing.T) {
	for groups := 1; groups <= 8; groups++ {
		for inodes := 1; inodes <= 4; inodes++ {
			for data := 8; data <= 1000; data++ {
				g := api.Geometry{Groups: groups, Inodes: inodes, Data: data}
				if e := Check(g); e != api.OK {
					t.Fatalf("Check(%+v) is %d", g, e)
				}
			}
		}
	}
}

func TestCheckRefuses(t *testing.T) {
	for _, g := range refused() {
		if e := Check(g); e != api.ErrArg {
			t.Errorf("Check(%+v) is %d", g, e)
		}
	}
}

func TestARefusedGeometryHasNothing(t *testing.T) {
	for _, g := range refused() {
		if a, b, c := Total(g), Inodes(g), Blocks(g); a != 0 || b != 0 || c != 0 {
			t.Errorf("%+v: Total %d, Inodes %d, Blocks %d", g, a, b, c)
		}
		for _, n := range append(odd(), 0, 1, 2, 3, 4, 8, 16) {
			noHead(t, g, n)
			noInode(t, g, n)
			noData(t, g, n)
			noDataOf(t, g, n)
		}
	}
}

func noHead(t *testing.T, g api.Geometry, group int) {
	t.Helper()
	if n, ok := Head(g, group); n != 0 || ok {
		t.Errorf("Head(%+v, %d) is %d, %v", g, group, n, ok)
	}
}

func noInode(t *testing.T, g api.Geometry, ino int) {
	t.Helper()
	if block, at, ok := InodeAt(g, ino); block != 0 || at != 0 || ok {
		t.Errorf("InodeAt(%+v, %d) is %d, %d, %v", g, ino, block, at, ok)
	}
	if group, n, ok := Group(g, ino); group != 0 || n != 0 || ok {
		t.Errorf("Group(%+v, %d) is %d, %d, %v", g, ino, group, n, ok)
	}
}

func noData(t *testing.T, g api.Geometry, n int) {
	t.Helper()
	if block, ok := Data(g, n); block != 0 || ok {
		t.Errorf("Data(%+v, %d) is %d, %v", g, n, block, ok)
	}
}

func noDataOf(t *testing.T, g api.Geometry, block int) {
	t.Helper()
	if n, ok := DataOf(g, block); n != 0 || ok {
		t.Errorf("DataOf(%+v, %d) is %d, %v", g, block, n, ok)
	}
}

// P302

func TestTheChaptersExample(t *testing.T) {
	g := api.Geometry{Groups: 1, Inodes: 1, Data: 8}
	head, ok := Head(g, 0)
	first, fine := Data(g, 0)
	if Total(g) != 11 || head != 1 || !ok || first != 3 || !fine {
		t.Errorf("Total %d, Head %d %v, Data %d %v", Total(g), head, ok, first, fine)
	}
}

func TestHowManyThereAre(t *testing.T) {
	for _, g := range fine() {
		count := map[byte]int{}
		disk := layOut(g)
		for _, p := range disk {
			count[p.kind]++
		}
		if Total(g) != len(disk) || Inodes(g) != count['i']*16 || Blocks(g) != count['d'] {
			t.Errorf("%+v: Total %d, Inodes %d, Blocks %d", g, Total(g), Inodes(g), Blocks(g))
		}
	}
}

func TestWhereEachThingLies(t *testing.T) {
	for _, g := range fine() {
		firstOf := map[int]int{} // of each group its first inode
		for block, p := range layOut(g) {
			switch p.kind {
			case 'h':
				lieHead(t, g, p.group, block)
			case 'i':
				if _, ok := firstOf[p.group]; !ok {
					firstOf[p.group] = p.first
				}
				lieInodes(t, g, block, p, firstOf[p.group])
			case 'd':
				lieData(t, g, p.first, block)
			}
			if p.kind != 'd' {
				noDataOf(t, g, block)
			}
		}
	}
}

func lieHead(t *testing.T, g api.Geometry, group, block int) {
	t.Helper()
	if n, ok := Head(g, group); n != block || !ok {
		t.Errorf("Head(%+v, %d) is %d, %v", g, group, n, ok)
	}
}

func lieInodes(t *testing.T, g api.Geometry, block int, p place, firstOfGroup int) {
	t.Helper()
	for i := 0; i < 16; i++ {
		ino := p.first + i
		if b, at, ok := InodeAt(g, ino); b != block || at != 64*i || !ok {
			t.Errorf("InodeAt(%+v, %d) is %d, %d, %v", g, ino, b, at, ok)
		}
		if group, n, ok := Group(g, ino); group != p.group || n != ino-firstOfGroup || !ok {
			t.Errorf("Group(%+v, %d) is %d, %d, %v", g, ino, group, n, ok)
		}
	}
}

func lieData(t *testing.T, g api.Geometry, n, block int) {
	t.Helper()
	if b, ok := Data(g, n); b != block || !ok {
		t.Errorf("Data(%+v, %d) is %d, %v", g, n, b, ok)
	}
	if m, ok := DataOf(g, block); m != n || !ok {
		t.Errorf("DataOf(%+v, %d) is %d, %v", g, block, m, ok)
	}
}

func TestWhatThereIsNot(t *testing.T) {
	for _, g := range fine() {
		for _, n := range odd() {
			noHead(t, g, n)
			noInode(t, g, n)
			noData(t, g, n)
			noDataOf(t, g, n)
		}
		noInode(t, g, 0)
		for past := range 20 {
			noHead(t, g, g.Groups+past)
			noInode(t, g, g.Groups*g.Inodes*16+1+past)
			noData(t, g, g.Groups*g.Data+past)
			noDataOf(t, g, 1+g.Groups*(1+g.Inodes+g.Data)+past)
		}
	}
}

// P303

// TestAnswersHangOnArgumentsAlone asks in one order and again in the other: what was asked in between changes nothing.
func TestAnswersHangOnArgumentsAlone(t *testing.T) {
	type answer struct {
		total, inodes, blocks, head, block, at, data, n, group, within int
		a, b, c, d, e                                                  bool
	}
	ask := func(g api.Geometry, n int) (x answer) {
		x.total, x.inodes, x.blocks = Total(g), Inodes(g), Blocks(g)
		x.head, x.a = Head(g, n)
		x.block, x.at, x.b = InodeAt(g, n)
		x.data, x.c = Data(g, n)
		x.n, x.d = DataOf(g, n)
		x.group, x.within, x.e = Group(g, n)
		return x
	}
	type question struct {
		g api.Geometry
		n int
	}
	var questions []question
	for _, g := range append(fine(), refused()...) {
		for _, n := range append(odd(), 0, 1, 5, 17, 40) {
			questions = append(questions, question{g, n})
		}
	}
	var answers []answer
	for _, q := range questions {
		answers = append(answers, ask(q.g, q.n))
	}
	for i := len(questions) - 1; i >= 0; i-- {
		if q := questions[i]; ask(q.g, q.n) != answers[i] {
			t.Errorf("%+v, %d: answered otherwise the second time", q.g, q.n)
		}
	}
}
