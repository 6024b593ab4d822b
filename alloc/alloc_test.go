package alloc

import (
	"bytes"
	"math"
	"slices"
	"testing"

	"lockgate/api"
	"lockgate/super"
)

// thing is an inode or a data block of the model: its number, its group, whether it is taken.
type thing struct {
	number, group int
	taken         bool
}

// model is what the tests compare with: the disk laid out block by block, and each search a plain one over lists.
type model struct {
	groups       int
	inodes, data []thing
}

func modelOf(g api.Geometry) *model {
	m := &model{groups: g.Groups}
	ino, block := 1, 1
	for group := 0; group < g.Groups; group++ {
		block += 1 + g.Inodes
		for range 16 * g.Inodes {
			m.inodes = append(m.inodes, thing{ino, group, false})
			ino++
		}
		for range g.Data {
			m.data = append(m.data, thing{block, group, false})
			block++
		}
	}
	return m
}

func (m *model) first(l []thing, group int) (int, bool) {
	if group < 0 || group >= m.groups {
		group = 0
	}
	for range m.groups {
		for i := range l {
			if l[i].group == group && !l[i].taken {
				l[i].taken = true
				return l[i].number, true
			}
		}
		if group++; group == m.groups {
			group = 0
		}
	}
	return 0, false
}

func (m *model) turn(ino, block int, taken bool) bool {
	i := slices.IndexFunc(m.inodes, func(x thing) bool { return x.number == ino && x.taken != taken })
	b := slices.IndexFunc(m.data, func(x thing) bool { return x.number == block && x.taken != taken })
	if ino != 0 && i < 0 || block != 0 && b < 0 {
		return false
	}
	if ino != 0 {
		m.inodes[i].taken = taken
	}
	if block != 0 {
		m.data[b].taken = taken
	}
	return true
}

func free(l []thing) int {
	n := 0
	for _, x := range l {
		if !x.taken {
			n++
		}
	}
	return n
}

func row(l []thing, group, size int) []byte {
	out, i := make([]byte, size), 0
	for _, x := range l {
		if x.group != group {
			continue
		}
		if x.taken {
			out[i/8] |= 1 << (i % 8)
		}
		i++
	}
	return out
}

func same(t *testing.T, what string, g api.Geometry, a *Alloc, m *model) {
	t.Helper()
	i, b := a.Free()
	if i != free(m.inodes) || b != free(m.data) {
		t.Fatalf("%s: %+v: Free is %d, %d, want %d, %d", what, g, i, b, free(m.inodes), free(m.data))
	}
	for group := range g.Groups {
		inodes, data := a.Bits(group)
		if !bytes.Equal(inodes, row(m.inodes, group, 8)) || !bytes.Equal(data, row(m.data, group, (g.Data+7)/8)) {
			t.Fatalf("%s: %+v: Bits(%d) is %v, %v", what, g, group, inodes, data)
		}
	}
}

func fine() []api.Geometry {
	return []api.Geometry{
		{Groups: 1, Inodes: 1, Data: 8}, {Groups: 2, Inodes: 1, Data: 10}, {Groups: 3, Inodes: 2, Data: 15},
		{Groups: 5, Inodes: 3, Data: 17}, {Groups: 8, Inodes: 4, Data: 64}, {Groups: 8, Inodes: 1, Data: 9},
	}
}

func refused() []api.Geometry {
	return []api.Geometry{
		{}, {Groups: 9, Inodes: 1, Data: 8}, {Groups: 1, Inodes: 5, Data: 8}, {Groups: 1, Inodes: 1, Data: 7},
		{Groups: 1, Inodes: 1, Data: 1001}, {Groups: -1, Inodes: -1, Data: -1}, {Groups: 1, Inodes: 0, Data: 8},
		{Groups: math.MaxInt, Inodes: math.MaxInt, Data: math.MaxInt}, {Groups: math.MinInt, Inodes: 1, Data: 8},
	}
}

// odd are numbers far off whatever a disk has.
func odd() []int {
	return []int{-1, -2, -16, math.MinInt, math.MinInt + 1, 1 << 31, 1 << 40, math.MaxInt - 1, math.MaxInt}
}

// P1101

func TestAllIsFreeAtFirst(t *testing.T) {
	for _, g := range append(fine(), api.Geometry{Groups: 8, Inodes: 4, Data: 1000}) {
		same(t, "New", g, New(g), modelOf(g))
	}
	if i, b := New(api.Geometry{Groups: 8, Inodes: 4, Data: 1000}).Free(); i != 512 || b != 8000 {
		t.Errorf("%d, %d", i, b)
	}
}

func TestInodeOfTheExample(t *testing.T) {
	a := New(api.Geometry{Groups: 2, Inodes: 1, Data: 8})
	if i, ok := a.Inode(1); i != 17 || !ok {
		t.Errorf("%d, %v", i, ok)
	}
}

func TestInodesAndBlocksGoRound(t *testing.T) {
	for _, g := range fine() {
		for from := range g.Groups {
			a, m := New(g), modelOf(g)
			for range len(m.inodes) + 2 {
				i, ok := a.Inode(from)
				if want, fine := m.first(m.inodes, from); i != want || ok != fine {
					t.Fatalf("%+v: Inode(%d): %d, %v, want %d, %v", g, from, i, ok, want, fine)
				}
			}
			for range len(m.data) + 2 {
				b, ok := a.Block(from)
				if want, fine := m.first(m.data, from); b != want || ok != fine {
					t.Fatalf("%+v: Block(%d): %d, %v, want %d, %v", g, from, b, ok, want, fine)
				}
			}
			same(t, "all taken", g, a, m)
		}
	}
}

func TestAWholeDiskIsGivenOut(t *testing.T) {
	g := api.Geometry{Groups: 8, Inodes: 4, Data: 1000}
	a := New(g)
	for k := range 8000 {
		group := (3 + k/1000) % 8
		if b, ok := a.Block(3); b != 1+group*1005+5+k%1000 || !ok {
			t.Fatalf("%d: %d, %v", k, b, ok)
		}
	}
	for k := range 512 {
		if i, ok := a.Inode(7); i != (448+k)%512+1 || !ok {
			t.Fatalf("%d: %d, %v", k, i, ok)
		}
	}
	i, ok := a.Inode(7)
	b, fine := a.Block(3)
	if i != 0 || ok || b != 0 || fine {
		t.Errorf("%d, %v, %d, %v of a full disk", i, ok, b, fine)
	}
}

func TestAGroupThatIsNoneIsTheFirst(t *testing.T) {
	g := api.Geometry{Groups: 3, Inodes: 1, Data: 9}
	for _, group := range append(odd(), 3, 4, 8) {
		a := New(g)
		i, ok := a.Inode(group)
		b, fine := a.Block(group)
		if i != 1 || !ok || b != 3 || !fine {
			t.Errorf("group %d: %d, %v, %d, %v", group, i, ok, b, fine)
		}
	}
}

func TestWhatIsGivenBackIsGivenOutFirst(t *testing.T) {
	a := New(api.Geometry{Groups: 2, Inodes: 1, Data: 10})
	for range 5 {
		a.Inode(1)
		a.Block(1)
	}
	a.Give(19, 17)
	a.Give(18, 18)
	for k, want := range [][2]int{{18, 17}, {19, 18}, {22, 20}} {
		i, _ := a.Inode(1)
		b, _ := a.Block(1)
		if i != want[0] || b != want[1] {
			t.Errorf("%d: %d, %d, want %v", k, i, b, want)
		}
	}
}

func TestThereIsNothingOfARefusedGeometry(t *testing.T) {
	for _, g := range refused() {
		a := New(g)
		for _, n := range append(odd(), 0, 1, 2, 3, 8) {
			i, ok := a.Inode(n)
			b, fine := a.Block(n)
			if i != 0 || ok || b != 0 || fine {
				t.Errorf("%+v: group %d: %d, %v, %d, %v", g, n, i, ok, b, fine)
			}
			if inodes, data := a.Bits(n); inodes != nil || data != nil {
				t.Errorf("%+v: Bits(%d): %v, %v", g, n, inodes, data)
			}
			if n != 0 && (a.Take(n, 0) || a.Take(0, n) || a.Give(n, 0) || a.Give(0, n)) {
				t.Errorf("%+v: there is a %d", g, n)
			}
		}
		if !a.Take(0, 0) || !a.Give(0, 0) {
			t.Errorf("%+v: none of both is refused", g)
		}
		if i, b := a.Free(); i != 0 || b != 0 {
			t.Errorf("%+v: Free: %d, %d", g, i, b)
		}
	}
}

// P1102

func TestTakeAndGiveOfEachNumber(t *testing.T) {
	for _, g := range fine() {
		a, m := New(g), modelOf(g)
		last := m.data[len(m.data)-1].number + 3
		for _, taken := range []bool{true, true, false, false} {
			for n := -2; n < max(last, len(m.inodes)+3); n++ {
				for _, pair := range [][2]int{{n, 0}, {0, n}} {
					do := a.Give
					if taken {
						do = a.Take
					}
					if got, want := do(pair[0], pair[1]), m.turn(pair[0], pair[1], taken); got != want {
						t.Fatalf("%+v: taken %v of %v: %v", g, taken, pair, got)
					}
				}
			}
			same(t, "each turned", g, a, m)
		}
	}
}

func TestNeitherIsTurnedIfOneCannotBe(t *testing.T) {
	g := api.Geometry{Groups: 2, Inodes: 1, Data: 10}
	a, m := New(g), modelOf(g)
	a.Take(5, 6)
	m.turn(5, 6, true)
	wrong := append(odd(), 33, 34)
	for _, n := range wrong {
		if a.Take(n, 7) || a.Give(n, 6) || a.Take(n, 0) || a.Give(n, 0) {
			t.Errorf("there is an inode %d", n)
		}
	}
	for _, n := range append(odd(), 1, 2, 13, 14, 25, 26) {
		if a.Take(6, n) || a.Give(5, n) || a.Take(0, n) || a.Give(0, n) {
			t.Errorf("there is a data block %d", n)
		}
	}
	if a.Take(5, 7) || a.Take(6, 6) || a.Take(5, 6) || a.Take(5, 0) || a.Take(0, 6) {
		t.Error("what is taken is taken again")
	}
	if a.Give(6, 6) || a.Give(5, 7) || a.Give(6, 7) || a.Give(6, 0) || a.Give(0, 7) {
		t.Error("what is free is given back")
	}
	same(t, "all refused", g, a, m)
	if !a.Take(0, 0) || !a.Give(0, 0) {
		t.Error("none of both is refused")
	}
	same(t, "none of both", g, a, m)
	if !a.Give(5, 6) || !a.Take(6, 7) || !a.Take(32, 24) {
		t.Error("both that can be are refused")
	}
}

func TestTheSameNumberTwiceIsAnInodeAndABlock(t *testing.T) {
	a := New(api.Geometry{Groups: 1, Inodes: 1, Data: 20})
	if !a.Take(7, 7) || a.Take(7, 0) || a.Take(0, 7) || !a.Give(7, 0) || !a.Give(0, 7) {
		t.Error("inodes and blocks are not apart")
	}
}

func TestBitsAreThoseOfAHead(t *testing.T) {
	for _, g := range append(fine(), api.Geometry{Groups: 8, Inodes: 4, Data: 999}) {
		a := New(g)
		for group := range g.Groups {
			for range group + 9 {
				a.Inode(group)
				a.Block(group)
			}
		}
		for group := range g.Groups {
			inodes, data := a.Bits(group)
			head, err := super.Head(g, group, inodes, data)
			i, d := super.Bits(g, head)
			if err != api.OK || !bytes.Equal(i, inodes) || !bytes.Equal(d, data) {
				t.Errorf("%+v: group %d: %v, %v", g, group, inodes, data)
			}
		}
		for _, group := range append(odd(), g.Groups, g.Groups+1, 8) {
			if inodes, data := a.Bits(group); inodes != nil || data != nil {
				t.Errorf("%+v: group %d is none: %v, %v", g, group, inodes, data)
			}
		}
	}
}

func TestBitsThatAreNoneAreZero(t *testing.T) {
	a := New(api.Geometry{Groups: 1, Inodes: 1, Data: 11})
	for range 20 {
		a.Inode(0)
		a.Block(0)
	}
	inodes, data := a.Bits(0)
	if !bytes.Equal(inodes, []byte{255, 255, 0, 0, 0, 0, 0, 0}) || !bytes.Equal(data, []byte{255, 7}) {
		t.Errorf("%v, %v", inodes, data)
	}
}

func TestBitsAreNewMemory(t *testing.T) {
	g := api.Geometry{Groups: 2, Inodes: 2, Data: 12}
	a, m := New(g), modelOf(g)
	a.Take(3, 6)
	m.turn(3, 6, true)
	for group := range 2 {
		inodes, data := a.Bits(group)
		for _, b := range [][]byte{inodes[:cap(inodes)], data[:cap(data)]} {
			for i := range b {
				b[i] = 255
			}
		}
	}
	same(t, "answers overwritten", g, a, m)
	inodes, data := a.Bits(0)
	a.Take(4, 7)
	if inodes[0] != 4 || data[0] != 4 {
		t.Errorf("an answer changed behind a later call: %v, %v", inodes, data)
	}
}

// TestLongRows plays rows of mixed calls, drawn by a rule, against the model.
func TestLongRows(t *testing.T) {
	for k, g := range fine() {
		a, m := New(g), modelOf(g)
		seed := uint32(k + 1)
		draw := func(n int) int {
			seed = seed*1664525 + 1013904223
			return int(seed>>8) % n
		}
		blocks := m.data[len(m.data)-1].number + 2
		for step := range 6000 {
			var got, want [2]int
			var ok, fine bool
			switch group, ino, block := draw(g.Groups+2)-1, draw(len(m.inodes)+2), draw(blocks); draw(8) {
			case 0, 1:
				got[0], ok = a.Inode(group)
				want[0], fine = m.first(m.inodes, group)
			case 2, 3:
				got[1], ok = a.Block(group)
				want[1], fine = m.first(m.data, group)
			case 4:
				ok, fine = a.Take(ino, block), m.turn(ino, block, true)
			case 5:
				ok, fine = a.Give(ino, block), m.turn(ino, block, false)
			case 6:
				ok, fine = a.Give(ino, 0), m.turn(ino, 0, false)
			case 7:
				ok, fine = a.Give(0, block), m.turn(0, block, false)
			}
			if got != want || ok != fine {
				t.Fatalf("%+v: step %d: %v, %v, want %v, %v", g, step, got, ok, want, fine)
			}
			if step%50 == 0 {
				same(t, "long row", g, a, m)
			}
		}
		same(t, "end of a long row", g, a, m)
	}
}

// P1103

func TestTwoAllocsHaveNothingInCommon(t *testing.T) {
	g := api.Geometry{Groups: 2, Inodes: 1, Data: 9}
	a, b, m := New(g), New(g), modelOf(g)
	for range 40 {
		a.Inode(1)
		a.Block(0)
	}
	same(t, "the other is full", g, b, m)
	b.Take(17, 14)
	m.turn(17, 14, true)
	if i, n := a.Free(); i != 0 || n != 0 {
		t.Errorf("%d, %d", i, n)
	}
	a.Give(17, 14)
	same(t, "given back to the other", g, b, m)
}

func TestACopyOfAnAllocIsOneOfItsOwn(t *testing.T) {
	g := api.Geometry{Groups: 2, Inodes: 1, Data: 9}
	a, m := New(g), modelOf(g)
	a.Take(2, 4)
	m.turn(2, 4, true)
	b := *a
	b.Inode(0)
	b.Block(1)
	b.Give(2, 4)
	same(t, "its copy has changed", g, a, m)
}

func TestGroupsHaveNothingInCommon(t *testing.T) {
	g := api.Geometry{Groups: 3, Inodes: 1, Data: 8}
	a := New(g)
	a.Take(17, 14)
	for _, group := range []int{0, 2} {
		if inodes, data := a.Bits(group); !bytes.Equal(inodes, make([]byte, 8)) || !bytes.Equal(data, []byte{0}) {
			t.Errorf("group %d: %v, %v", group, inodes, data)
		}
	}
}
