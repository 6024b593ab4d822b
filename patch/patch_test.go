package patch

import (
	"bytes"
	"math"
	"math/rand"
	"slices"
	"testing"

	"lockgate/api"
)

func change(id, at int, to ...byte) api.Patch { return api.Patch{ID: id, At: at, New: to} }

func mustApply(t *testing.T, base []byte, l []api.Patch, out []int, want ...byte) {
	t.Helper()
	if got := Apply(base, l, out); !bytes.Equal(got, want) {
		t.Errorf("Apply(%v, %v, %v) is %v, want %v", base, l, out, got, want)
	}
}

func mustLap(t *testing.T, a, b api.Patch, want bool) {
	t.Helper()
	if Lap(a, b) != want || Lap(b, a) != want {
		t.Errorf("Lap of %v and %v is not %v both ways", a, b, want)
	}
}

func mustBeSafe(t *testing.T, l []api.Patch, out []int, want bool) {
	t.Helper()
	if Safe(l, out) != want {
		t.Errorf("Safe(%v, %v) is not %v", l, out, want)
	}
}

func mustDiff(t *testing.T, from, to []byte, want ...api.Patch) {
	t.Helper()
	if got := Diff(from, to); !slices.EqualFunc(got, want, same) {
		t.Errorf("Diff(%v, %v) is %v, want %v", from, to, got, want)
	}
}

func same(a, b api.Patch) bool { return a.ID == b.ID && a.At == b.At && bytes.Equal(a.New, b.New) }

// P1401: the changes are made in l's order, not by ID or At; of one place the last one holds.
func TestApplyInOrder(t *testing.T) {
	base := []byte{1, 2, 3, 4}
	mustApply(t, base, nil, nil, 1, 2, 3, 4)
	mustApply(t, base, []api.Patch{change(5, 2, 7, 8), change(3, 1, 9, 6)}, nil, 1, 9, 6, 8)
	mustApply(t, base, []api.Patch{change(3, 1, 9, 6), change(5, 2, 7, 8)}, nil, 1, 9, 7, 8)
	mustApply(t, base, []api.Patch{change(0, 0, 5, 6, 7, 8)}, nil, 5, 6, 7, 8)
	mustApply(t, base, []api.Patch{change(0, 2)}, nil, 1, 2, 3, 4)
}

// P1401: those that are out are left out, all of an ID; an ID of none does nothing.
func TestApplyOut(t *testing.T) {
	base := []byte{1, 2, 3}
	l := []api.Patch{change(4, 0, 10), change(-1, 1, 11), change(4, 2, 12), change(0, 2, 13)}
	mustApply(t, base, l, nil, 10, 11, 13)
	mustApply(t, base, l, []int{4}, 1, 11, 13)
	mustApply(t, base, l, []int{0}, 10, 11, 12)
	mustApply(t, base, l, []int{0, -1, 0}, 10, 2, 12)
	mustApply(t, base, l, []int{7, math.MinInt, math.MaxInt}, 10, 11, 13)
	mustApply(t, base, l, []int{4, 0, -1}, 1, 2, 3)
}

// P1401: of a change that lies outside of base in part, the other part is made.
func TestApplyOutside(t *testing.T) {
	base := []byte{1, 2, 3}
	for _, x := range []struct {
		c    api.Patch
		want []byte
	}{
		{change(0, 2, 8, 9), []byte{1, 2, 8}},
		{change(0, 3, 8, 9), []byte{1, 2, 3}},
		{change(0, 4, 8), []byte{1, 2, 3}},
		{change(0, math.MaxInt, 8, 9), []byte{1, 2, 3}},
		{change(0, -1, 8, 9), []byte{9, 2, 3}},
		{change(0, -2, 8, 9), []byte{1, 2, 3}},
		{change(0, -3, 8, 9), []byte{1, 2, 3}},
		{change(0, -1), []byte{1, 2, 3}},
		{change(0, -2, 4, 5, 6, 7, 8, 9), []byte{6, 7, 8}},
		{change(0, math.MinInt, 8, 9), []byte{1, 2, 3}},
		{change(0, math.MinInt+1, 8, 9), []byte{1, 2, 3}},
	} {
		mustApply(t, base, []api.Patch{x.c}, nil, x.want...)
	}
	mustApply(t, nil, []api.Patch{change(0, 0, 1), change(0, -1, 1, 2)}, nil)
}

// P1401: places beyond what an int may tell are places too, and do not come round.
func TestLap(t *testing.T) {
	mustLap(t, change(0, 0, 1, 1), change(0, 1, 1), true)
	mustLap(t, change(0, 0, 1, 1), change(0, 2, 1), false)
	mustLap(t, change(0, 0, 1, 1, 1), change(0, 1, 1), true)
	mustLap(t, change(0, 5, 1), change(9, 5, 2), true)
	mustLap(t, change(0, -2, 1, 1), change(0, -1, 1), true)
	mustLap(t, change(0, -2, 1, 1), change(0, 0, 1), false)
	mustLap(t, change(0, math.MaxInt, 1, 1), change(0, math.MinInt, 1), false)
	mustLap(t, change(0, math.MaxInt, 1, 1), change(0, math.MinInt, 1, 1, 1), false)
	mustLap(t, change(0, math.MaxInt, 1), change(0, math.MaxInt-1, 1, 1), true)
	mustLap(t, change(0, math.MaxInt, 1), change(0, math.MaxInt-1, 1), false)
	mustLap(t, change(0, math.MinInt, 1), change(0, math.MinInt, 1), true)
	mustLap(t, change(0, math.MinInt, 1), change(0, 0, 1), false)
}

// P1401: what has no byte has no place, wherever it stands.
func TestLapOfNothing(t *testing.T) {
	for _, at := range []int{-1, 0, 1, 2, 3, math.MinInt, math.MaxInt} {
		mustLap(t, change(0, at), change(0, 0, 1, 1), false)
		mustLap(t, change(0, at), change(0, at, 1), false)
		mustLap(t, change(0, at), change(0, at), false)
	}
}

// P1401: it matters which of two is out, and which stands ahead.
func TestSafe(t *testing.T) {
	l := []api.Patch{change(1, 0, 1, 1), change(2, 1, 1, 1), change(3, 3, 1)}
	for _, x := range []struct {
		out  []int
		want bool
	}{
		{nil, true}, {[]int{1}, false}, {[]int{2}, true}, {[]int{3}, true}, {[]int{1, 2}, true},
		{[]int{1, 3}, false}, {[]int{2, 3}, true}, {[]int{3, 2, 1, 2}, true}, {[]int{0, 4}, true},
	} {
		mustBeSafe(t, l, x.out, x.want)
	}
	mustBeSafe(t, nil, []int{1}, true)
	mustBeSafe(t, l[:1], []int{1}, true)
}

// P1401: where they stand in l is what counts, neither their At nor their ID.
func TestSafeByPlaceInList(t *testing.T) {
	l := []api.Patch{change(9, 5, 1, 1), change(3, 4, 1, 1)}
	mustBeSafe(t, l, []int{9}, false)
	mustBeSafe(t, l, []int{3}, true)
	twice := []api.Patch{change(7, 0, 1), change(8, 0, 1), change(7, 0, 1)}
	mustBeSafe(t, twice, []int{7}, false)
	mustBeSafe(t, twice, []int{8}, false)
	mustBeSafe(t, twice[:2], []int{8}, true)
}

// P1401: one that is in between in l, or by its At, hides none.
func TestSafeBehindOthers(t *testing.T) {
	l := []api.Patch{change(1, 0, make([]byte, 50)...), change(2, 3, 1), change(3, 60, 1), change(4, 49, 1)}
	mustBeSafe(t, l, []int{1}, false)
	mustBeSafe(t, l, []int{1, 2}, false)
	mustBeSafe(t, l, []int{1, 2, 3}, false)
	mustBeSafe(t, l, []int{1, 2, 4}, true)
	mustBeSafe(t, l, []int{2, 3}, true)
	mustBeSafe(t, l, []int{2, 3, 4}, true)
}

// P1401: changes outside of every block lap as others do; one without bytes with none.
func TestSafeAtEdges(t *testing.T) {
	far := []api.Patch{change(1, math.MaxInt, 1, 1), change(2, math.MinInt, 1, 1)}
	mustBeSafe(t, far, []int{1}, true)
	far = append(far, change(3, math.MaxInt-1, 1, 1), change(4, math.MinInt+1, 1))
	mustBeSafe(t, far, []int{1}, false)
	mustBeSafe(t, far, []int{2}, false)
	mustBeSafe(t, far, []int{3, 4}, true)
	none := []api.Patch{change(1, 0), change(2, 0, 1), change(3, 0), change(4, 0)}
	mustBeSafe(t, none, []int{1}, true)
	mustBeSafe(t, none, []int{2}, true)
	mustBeSafe(t, none, []int{2, 4}, true)
}

// P1402.
func TestDiff(t *testing.T) {
	mustDiff(t, []byte{1, 2, 3, 4}, []byte{1, 5, 6, 4}, change(0, 1, 5, 6))
	mustDiff(t, []byte{1, 2, 3, 4}, []byte{1, 2, 3, 4})
	mustDiff(t, []byte{1, 2, 3}, []byte{4, 5, 6}, change(0, 0, 4, 5, 6))
	mustDiff(t, []byte{1, 2, 3}, []byte{4, 2, 6}, change(0, 0, 4), change(1, 2, 6))
	mustDiff(t, []byte{1, 2, 3, 4, 5}, []byte{1, 0, 3, 0, 0}, change(0, 1, 0), change(1, 3, 0, 0))
	mustDiff(t, []byte{1}, []byte{2}, change(0, 0, 2))
	mustDiff(t, nil, []byte{})
}

// P1402: of two that are not of one length there is none, however alike they begin.
func TestDiffOfOtherLengths(t *testing.T) {
	mustDiff(t, []byte{1, 2}, []byte{1, 2, 3})
	mustDiff(t, []byte{1, 2, 3}, []byte{4, 5})
	mustDiff(t, []byte{4, 5}, []byte{1, 2, 3})
	mustDiff(t, nil, []byte{1})
	mustDiff(t, []byte{1}, nil)
}

// P1403: neither what is handed in nor its spare room is changed.
func TestHandedInStays(t *testing.T) {
	base := []byte{1, 2, 3, 99, 98}
	l := []api.Patch{change(1, 1, 7, 8, 9), change(2, -1, 5, 6)}
	out := []int{1, 2, 77}
	Apply(base[:3], l, nil)
	Apply(base[:3], l, out[:1])
	Safe(l, out[:1])
	Diff(base[:3], []byte{3, 2, 1})
	if !bytes.Equal(base, []byte{1, 2, 3, 99, 98}) || !slices.Equal(out, []int{1, 2, 77}) {
		t.Errorf("base is %v, out %v", base, out)
	}
	if !slices.EqualFunc(l, []api.Patch{change(1, 1, 7, 8, 9), change(2, -1, 5, 6)}, same) {
		t.Errorf("the changes are %v", l)
	}
}

// P1403: what is answered shares no memory with what was handed in, and no two lists of it with each other.
func TestAnswersAreNew(t *testing.T) {
	base := []byte{1, 2, 3}
	l := []api.Patch{change(1, 0, 7, 8, 9)}
	for _, b := range [][]byte{Apply(base, nil, nil), Apply(base, l, nil)} {
		clear(b[:cap(b)])
	}
	to := []byte{4, 2, 5}
	d := Diff(base, to)
	clear(d[0].New[:cap(d[0].New)])
	if !bytes.Equal(base, []byte{1, 2, 3}) || !bytes.Equal(to, []byte{4, 2, 5}) || !bytes.Equal(l[0].New, []byte{7, 8, 9}) {
		t.Errorf("base is %v, to %v, the change %v", base, to, l[0].New)
	}
	if !same(d[1], change(1, 2, 5)) {
		t.Errorf("the second change is %v", d[1])
	}
}

// drawn are changes of a few places, some of them outside of a block of as many bytes, with few IDs.
func drawn(r *rand.Rand, places int) ([]api.Patch, []int) {
	l := make([]api.Patch, r.Intn(8))
	for i := range l {
		l[i] = api.Patch{ID: r.Intn(6), At: r.Intn(places+6) - 3, New: make([]byte, r.Intn(4))}
		r.Read(l[i].New)
	}
	out := make([]int, r.Intn(4))
	for i := range out {
		out[i] = r.Intn(7)
	}
	return l, out
}

// places are the places of a change's bytes.
func places(c api.Patch) []int {
	var l []int
	for i := range c.New {
		l = append(l, c.At+i)
	}
	return l
}

func plainApply(base []byte, l []api.Patch, out []int) []byte {
	b := slices.Clone(base)
	for _, c := range l {
		for i, at := range places(c) {
			if !slices.Contains(out, c.ID) && at >= 0 && at < len(b) {
				b[at] = c.New[i]
			}
		}
	}
	return b
}

func plainLap(a, b api.Patch) bool {
	return slices.ContainsFunc(places(a), func(at int) bool { return slices.Contains(places(b), at) })
}

func plainSafe(l []api.Patch, out []int) bool {
	for i, c := range l {
		for _, ahead := range l[:i] {
			if !slices.Contains(out, c.ID) && slices.Contains(out, ahead.ID) && plainLap(c, ahead) {
				return false
			}
		}
	}
	return true
}

// P1401: as the chapter's words say it, place by place.
func TestDrawnChanges(t *testing.T) {
	r := rand.New(rand.NewSource(14))
	safe := 0
	for range 20000 {
		base := make([]byte, r.Intn(12))
		r.Read(base)
		l, out := drawn(r, len(base))
		mustApply(t, base, l, out, plainApply(base, l, out)...)
		mustBeSafe(t, l, out, plainSafe(l, out))
		if len(l) > 1 {
			mustLap(t, l[0], l[1], plainLap(l[0], l[1]))
		}
		if Safe(l, out) {
			safe++
		}
	}
	if safe < 1000 || safe > 19000 {
		t.Errorf("%d of the drawn ones are safe: too few of one kind", safe)
	}
}

// P1403: those that were out may be made behind, where that is safe.
func TestDrawnBehind(t *testing.T) {
	r := rand.New(rand.NewSource(1403))
	for range 20000 {
		base := make([]byte, r.Intn(12))
		r.Read(base)
		l, out := drawn(r, len(base))
		if !Safe(l, out) {
			continue
		}
		var behind []api.Patch
		for _, c := range l {
			if slices.Contains(out, c.ID) {
				behind = append(behind, c)
			}
		}
		mustApply(t, Apply(base, l, out), behind, nil, Apply(base, l, nil)...)
	}
}

// P1402: the changes make to of from; none of them can be longer, and no byte of them is in vain.
func TestDrawnDiff(t *testing.T) {
	r := rand.New(rand.NewSource(1402))
	for range 5000 {
		from := make([]byte, r.Intn(30))
		to := make([]byte, len(from))
		for i := range from {
			from[i], to[i] = byte(r.Intn(2)), byte(r.Intn(2))
		}
		l := Diff(from, to)
		mustApply(t, from, l, nil, to...)
		end := -1
		for i, c := range l {
			if c.ID != i || c.At <= end {
				t.Fatalf("Diff(%v, %v) is %v", from, to, l)
			}
			for k, at := range places(c) {
				if c.New[k] == from[at] {
					t.Fatalf("Diff(%v, %v) is %v", from, to, l)
				}
			}
			end = c.At + len(c.New)
		}
	}
}

// Many changes are told in little time: Safe does not hold each against each.
func TestManyChanges(t *testing.T) {
	const n = 200000
	l := make([]api.Patch, n)
	out := make([]int, 0, n)
	for i := range l {
		l[i] = change(i, i*7919%n, 1)
		if i%2 == 0 {
			out = append(out, i)
		}
	}
	mustBeSafe(t, l, out, true)
	mustBeSafe(t, append(l, change(n, 0, 1)), out, false)
	if got := Apply(make([]byte, n), l, out); bytes.Count(got, []byte{1}) != n/2 {
		t.Error("Apply of many changes made too many or too few")
	}
}
