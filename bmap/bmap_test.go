package bmap

import (
	"math"
	"slices"
	"testing"

	"lockgate/api"
)

// place is what Place answers.
type place struct {
	level, i, j int
	ok          bool
}

func placeOf(n int) place {
	level, i, j, ok := Place(n)
	return place{level, i, j, ok}
}

// layout are the places of all blocks that a file may have, told by going down its pointers one by one.
func layout() []place {
	var out []place
	for i := range 8 {
		out = append(out, place{0, i, 0, true})
	}
	for i := range 256 {
		out = append(out, place{1, i, 0, true})
	}
	for i := range 256 {
		for j := range 256 {
			out = append(out, place{2, i, j, true})
		}
	}
	return out
}

// odd are numbers that no block has.
func odd() []int {
	return []int{-1, -2, -8, -256, -264, -65800, 65800, 65801, 65800 + 256, 2 * 65800, 1 << 24, 1 << 32, 1<<32 + 8, -1 << 32, -1<<32 + 8, 1 << 60, math.MaxInt, math.MaxInt - 1, math.MinInt, math.MinInt + 1, math.MinInt + 8, math.MinInt + 264}
}

// metaOf counts the indirect blocks that lie on the way to these blocks by going over all that there are.
func metaOf(l []int) int {
	within := func(first, end int) int {
		if slices.ContainsFunc(l, func(n int) bool { return first <= n && n < end }) {
			return 1
		}
		return 0
	}
	out := within(8, 264) + within(264, 65800)
	for i := range 256 {
		out += within(264+256*i, 264+256*(i+1))
	}
	return out
}

// lists are lists of blocks of many shapes, with numbers that no block has among them.
func lists() [][]int {
	out := [][]int{nil, {}, odd(), append(odd(), 8), append([]int{264}, odd()...)}
	x := uint32(1)
	for n := range 60 {
		var l []int
		for range n {
			x = x*1664525 + 1013904223
			switch at := int(x >> 8); at % 5 {
			case 0:
				l = append(l, at%8)
			case 1:
				l = append(l, 8+at%256)
			case 2:
				l = append(l, 264+at%65536)
			case 3:
				l = append(l, 264+at%1024)
			case 4:
				l = append(l, odd()[at%len(odd())])
			}
		}
		out = append(out, l)
	}
	return out
}

// P901

func TestPlaceOfEachBlock(t *testing.T) {
	all := layout()
	if len(all) != api.MaxBlocks {
		t.Fatalf("%d blocks", len(all))
	}
	for n, want := range all {
		if got := placeOf(n); got != want {
			t.Fatalf("Place(%d): %v, not %v", n, got, want)
		}
	}
}

func TestPlaceAtTheEdges(t *testing.T) {
	for n, want := range map[int]place{
		0: {0, 0, 0, true}, 7: {0, 7, 0, true}, 8: {1, 0, 0, true}, 263: {1, 255, 0, true}, 264: {2, 0, 0, true},
		265: {2, 0, 1, true}, 519: {2, 0, 255, true}, 520: {2, 1, 0, true}, 65544: {2, 255, 0, true}, 65799: {2, 255, 255, true},
	} {
		if got := placeOf(n); got != want {
			t.Errorf("Place(%d): %v, not %v", n, got, want)
		}
	}
}

func TestPlaceOfNone(t *testing.T) {
	for _, n := range odd() {
		if got := placeOf(n); got != (place{}) {
			t.Errorf("Place(%d): %v", n, got)
		}
	}
}

func TestFirst(t *testing.T) {
	for _, c := range []struct{ level, i, want int }{
		{0, 0, 0}, {0, 1, 1}, {0, 7, 7}, {1, 0, 8}, {2, 0, 264}, {2, 1, 520}, {2, 255, 65544},
	} {
		if got, ok := First(c.level, c.i); !ok || got != c.want {
			t.Errorf("First(%d, %d): %d, %v", c.level, c.i, got, ok)
		}
	}
}

func TestFirstOfNone(t *testing.T) {
	for _, c := range [][2]int{
		{0, -1}, {0, 8}, {1, -1}, {1, 1}, {1, 255}, {2, -1}, {2, 256}, {3, 0}, {-1, 0},
		{0, math.MinInt}, {0, math.MaxInt}, {1, math.MinInt}, {1, math.MaxInt}, {2, math.MaxInt}, {2, math.MinInt}, {math.MaxInt, 0}, {math.MinInt, 0},
		{0, 1 << 32}, {1, 1 << 32}, {2, 1 << 32}, {2, 1 << 56}, {1 << 32, 0}, {1<<32 + 1, 0},
	} {
		if got, ok := First(c[0], c[1]); ok || got != 0 {
			t.Errorf("First(%d, %d): %d, %v", c[0], c[1], got, ok)
		}
	}
}

func TestFirstIsTheFirstBlockOfItsPointer(t *testing.T) {
	seen := map[[2]int]int{}
	for n, p := range layout() {
		pointer := [2]int{p.level, p.i}
		if p.level == 1 {
			pointer[1] = 0 // one pointer leads to all of the Single's
		}
		if _, ok := seen[pointer]; ok {
			continue
		}
		seen[pointer] = n
		if got, ok := First(pointer[0], pointer[1]); !ok || got != n {
			t.Errorf("First(%d, %d): %d, %v; not %d", pointer[0], pointer[1], got, ok, n)
		}
	}
	for level := -2; level < 6; level++ {
		for i := -300; i < 600; i++ {
			_, want := seen[[2]int{level, i}]
			if _, ok := First(level, i); ok != want {
				t.Errorf("First(%d, %d): %v", level, i, ok)
			}
		}
	}
}

// P902

func TestMeta(t *testing.T) {
	for _, c := range []struct {
		l    []int
		want int
	}{
		{nil, 0},
		{[]int{}, 0},
		{[]int{0}, 0},
		{[]int{0, 1, 2, 3, 4, 5, 6, 7}, 0},
		{[]int{8}, 1},
		{[]int{263}, 1},
		{[]int{8, 9, 263}, 1},
		{[]int{264}, 2},
		{[]int{264, 519}, 2},
		{[]int{264, 520}, 3},
		{[]int{519, 520}, 3},
		{[]int{0, 8, 264}, 3},
		{[]int{65799}, 2},
		{[]int{65543, 65544}, 3},
		{[]int{263, 264, 65799}, 4},
	} {
		if got := Meta(c.l); got != c.want {
			t.Errorf("Meta(%v): %d, not %d", c.l, got, c.want)
		}
	}
}

func TestMetaCountsEachOnce(t *testing.T) {
	for _, c := range []struct {
		l    []int
		want int
	}{
		{[]int{7, 7, 7}, 0}, {[]int{8, 8, 8}, 1}, {[]int{264, 264, 264}, 2}, {[]int{520, 264, 520, 264, 8, 520, 8}, 4}, {slices.Repeat([]int{300}, 100000), 2},
	} {
		if got := Meta(c.l); got != c.want {
			t.Errorf("Meta of %d blocks, %v first: %d, not %d", len(c.l), c.l[:3], got, c.want)
		}
	}
}

func TestMetaPassesOverWhatIsNoBlock(t *testing.T) {
	for _, n := range odd() {
		for want, l := range [][]int{{n}, {n, 8, n}, {264, n}} {
			if got := Meta(l); got != want {
				t.Errorf("Meta(%v): %d, not %d", l, got, want)
			}
		}
	}
	if got := Meta(odd()); got != 0 {
		t.Errorf("of none: %d", got)
	}
}

func TestMetaOfAllBlocks(t *testing.T) {
	var all []int
	for n := range api.MaxBlocks {
		all = append(all, n)
	}
	for _, c := range []struct{ from, end, want int }{
		{0, 8, 0}, {0, 9, 1}, {0, 264, 1}, {0, 265, 3}, {0, 520, 3}, {0, 521, 4}, {8, 65800, 258}, {264, 65800, 257}, {0, 65800, 258},
	} {
		if got := Meta(all[c.from:c.end]); got != c.want {
			t.Errorf("of the blocks from %d to %d: %d, not %d", c.from, c.end, got, c.want)
		}
	}
}

func TestMetaOfManyLists(t *testing.T) {
	for _, l := range lists() {
		want := metaOf(l)
		if got := Meta(l); got != want {
			t.Errorf("Meta(%v): %d, not %d", l, got, want)
		}
		back := slices.Clone(l)
		slices.Reverse(back)
		if got := Meta(back); got != want {
			t.Errorf("Meta(%v): %d, not %d", back, got, want)
		}
	}
}

func TestCount(t *testing.T) {
	for size, want := range map[int]int{
		0: 0, 1: 1, 1023: 1, 1024: 1, 1025: 2, 2048: 2, api.MaxSize - 1024: 65799, api.MaxSize - 1023: 65800, api.MaxSize: 65800,
		api.MaxSize + 1: 0, -1: 0, -1023: 0, -1024: 0, math.MaxInt: 0, math.MaxInt - 1022: 0, math.MinInt: 0, 1 << 32: 0, 1<<32 + 1: 0,
	} {
		if got := Count(size); got != want {
			t.Errorf("Count(%d): %d, not %d", size, got, want)
		}
	}
}

func TestCountRoundsUp(t *testing.T) {
	for blocks := range api.MaxBlocks {
		for _, more := range []int{1, 512, 1023, 1024} {
			if got := Count(blocks*1024 + more); got != blocks+1 {
				t.Fatalf("Count(%d): %d, not %d", blocks*1024+more, got, blocks+1)
			}
		}
	}
}

// P903

func TestMetaLeavesTheListAsItIs(t *testing.T) {
	whole := []int{520, -1, 8, 264, 8, 7, 6, 5}
	was := slices.Clone(whole)
	if got := Meta(whole[:5]); got != 4 {
		t.Errorf("Meta(%v): %d", whole[:5], got)
	}
	if !slices.Equal(whole, was) {
		t.Errorf("Meta has changed what it was handed: %v", whole)
	}
}

// TestAnswersHangOnArgumentsAlone asks in one order and again in the other: what was asked in between changes nothing, nor does what lies in spare room.
func TestAnswersHangOnArgumentsAlone(t *testing.T) {
	type answer struct {
		place       place
		first, meta int
		count       int
	}
	all := lists()
	ask := func(k int) answer {
		l := all[k]
		n := k * 131
		first, _ := First(k%4, k)
		return answer{placeOf(n), first, Meta(append(slices.Clone(l), 9, 9999)[:len(l)]), Count(k * 1000)}
	}
	var forth []answer
	for k := range all {
		forth = append(forth, ask(k))
	}
	for k := len(all) - 1; k >= 0; k-- {
		if got := ask(k); got != forth[k] {
			t.Errorf("%d: %v, then %v", k, forth[k], got)
		}
		if got := Meta(all[k]); got != forth[k].meta {
			t.Errorf("Meta(%v): %d with spare room, %d without", all[k], forth[k].meta, got)
		}
	}
}
