package deps

import (
	"math"
	"math/rand"
	"slices"
	"testing"

	"lockgate/api"
)

func mustAdd(t *testing.T, g *Graph, want, buf int, on ...int) {
	t.Helper()
	if id, err := g.Add(buf, on); id != want || err != api.OK {
		t.Fatalf("Add(%d, %v) is %d, %v, want %d", buf, on, id, err, want)
	}
}

func mustNotAdd(t *testing.T, g *Graph, buf int, on ...int) {
	t.Helper()
	if id, err := g.Add(buf, on); id != 0 || err != api.ErrArg {
		t.Errorf("Add(%d, %v) is %d, %v, want 0, ErrArg", buf, on, id, err)
	}
}

func mustTell(t *testing.T, what string, got []int, want ...int) {
	t.Helper()
	if !slices.Equal(got, want) {
		t.Errorf("%s is %v, want %v", what, got, want)
	}
}

// P1301: numbers go from 0 on, whatever the buffers and whatever is done.
func TestAddNumbersFromZero(t *testing.T) {
	g := New()
	mustAdd(t, g, 0, math.MaxInt)
	mustAdd(t, g, 1, math.MinInt, 0)
	mustAdd(t, g, 2, 0, 1, 0, 1, 1)
	g.Written(math.MaxInt)
	mustAdd(t, g, 3, math.MaxInt, 0, 2)
	mustTell(t, "Bufs", g.Bufs(), math.MinInt, 0, math.MaxInt)
}

// P1301: what is no change is refused, at whatever place it stands, and takes no number.
func TestAddRefusesNoChange(t *testing.T) {
	g := New()
	mustNotAdd(t, g, 7, 0)
	mustAdd(t, g, 0, 7)
	for _, none := range []int{-1, 1, 2, math.MinInt, math.MaxInt} {
		mustNotAdd(t, g, 8, none)
		mustNotAdd(t, g, 8, 0, none)
		mustNotAdd(t, g, 8, none, 0)
	}
	mustTell(t, "Bufs", g.Bufs(), 7)
	mustTell(t, "Need", g.Need([]int{0, 1}), 0)
	if g.Left() != 1 {
		t.Errorf("Left is %d, want 1", g.Left())
	}
	mustTell(t, "Written(7)", g.Written(7), 0)
	mustAdd(t, g, 1, 8)
	mustTell(t, "Next(8)", g.Next(8), 1)
}

// P1301, P1302: a change may hang on one that is done; it is as if it did not.
func TestAddOnDone(t *testing.T) {
	g := New()
	mustAdd(t, g, 0, 7)
	mustAdd(t, g, 1, 7)
	g.Written(7)
	mustAdd(t, g, 2, 8, 0, 1)
	mustTell(t, "Next(8)", g.Next(8), 2)
	mustTell(t, "Need", g.Need([]int{2}), 2)
}

// The chapter's example.
func TestExample(t *testing.T) {
	g := New()
	mustAdd(t, g, 0, 7)
	mustAdd(t, g, 1, 8, 0)
	mustTell(t, "Ready", g.Ready(), 7)
	mustTell(t, "Blocked(8)", g.Blocked(8), 1)
	mustTell(t, "Next(8)", g.Next(8))
}

// P1302: a change waits for all that it hangs on, not for one of them.
func TestNextWaitsForAll(t *testing.T) {
	g := New()
	mustAdd(t, g, 0, 1)
	mustAdd(t, g, 1, 2)
	mustAdd(t, g, 2, 3, 0, 1, 0)
	mustTell(t, "Written(1)", g.Written(1), 0)
	mustTell(t, "Blocked(3)", g.Blocked(3), 2)
	mustTell(t, "Ready", g.Ready(), 2)
	mustTell(t, "Written(2)", g.Written(2), 1)
	mustTell(t, "Next(3)", g.Next(3), 2)
	mustTell(t, "Blocked(3)", g.Blocked(3))
}

func mustBe(t *testing.T, g *Graph, id, buf int, on ...int) {
	t.Helper()
	if b, l, ok := g.Change(id); b != buf || !slices.Equal(l, on) || !ok {
		t.Errorf("Change(%d) is %d, %v, %v, want %d, %v", id, b, l, ok, buf, on)
	}
}

func mustNotBe(t *testing.T, g *Graph, ids ...int) {
	t.Helper()
	for _, id := range ids {
		if b, l, ok := g.Change(id); b != 0 || l != nil || ok {
			t.Errorf("Change(%d) is %d, %v, %v, want none", id, b, l, ok)
		}
	}
}

// Change beside the chapter's calls: the buffer, and of those that it hangs on the ones that are not done, in new memory.
func TestChange(t *testing.T) {
	g := New()
	mustNotBe(t, g, 0, -1)
	mustAdd(t, g, 0, 7)
	mustAdd(t, g, 1, -8, 0)
	mustAdd(t, g, 2, 9, 1, 0, 1)
	mustBe(t, g, 0, 7)
	mustBe(t, g, 1, -8, 0)
	mustBe(t, g, 2, 9, 0, 1)
	_, on, _ := g.Change(2)
	on[0] = 5
	mustBe(t, g, 2, 9, 0, 1)
	g.Written(7)
	mustBe(t, g, 2, 9, 1)
	mustNotBe(t, g, 0, 3, -1, math.MinInt, math.MaxInt)
}

func mustJoin(t *testing.T, g *Graph, want bool, id int, on ...int) {
	t.Helper()
	if g.Join(id, on) != want {
		t.Errorf("Join(%d, %v) is not %v", id, on, want)
	}
}

// Join beside the chapter's calls: a change hangs on more, as if it had been added so, also on what was added behind it.
func TestJoin(t *testing.T) {
	g := New()
	mustAdd(t, g, 0, 7)
	mustAdd(t, g, 1, 8)
	mustAdd(t, g, 2, 9)
	mustJoin(t, g, true, 0)
	mustTell(t, "Next(7)", g.Next(7), 0)
	mustJoin(t, g, true, 0, 1, 2, 1)
	mustTell(t, "Blocked(7)", g.Blocked(7), 0)
	mustTell(t, "Next(7)", g.Next(7))
	mustTell(t, "Ready", g.Ready(), 8, 9)
	mustTell(t, "Need", g.Need([]int{0}), 0, 1, 2)
	c := g.Copy()
	mustTell(t, "Written(8)", g.Written(8), 1)
	mustJoin(t, g, true, 0, 1)
	mustTell(t, "Blocked(7)", g.Blocked(7), 0)
	mustTell(t, "Written(9)", g.Written(9), 2)
	mustTell(t, "Written(7)", g.Written(7), 0)
	mustTell(t, "Blocked(7) of the copy", c.Blocked(7), 0)
	if g.Left() != 0 || c.Left() != 3 {
		t.Errorf("Left is %d, %d", g.Left(), c.Left())
	}
}

// Join refuses what might make a ring, and what is no change or done; nothing changes then.
func TestJoinRefuses(t *testing.T) {
	g := New()
	mustAdd(t, g, 0, 7)
	mustAdd(t, g, 1, 8, 0)
	mustAdd(t, g, 2, 9)
	mustAdd(t, g, 3, 6)
	g.Written(6)
	mustJoin(t, g, false, 0, 1)
	mustJoin(t, g, false, 0, 2)
	mustJoin(t, g, false, 0)
	mustJoin(t, g, false, 1, 1)
	mustJoin(t, g, false, 1, 2, 4)
	mustJoin(t, g, false, 1, -1)
	mustJoin(t, g, false, 3, 2)
	mustJoin(t, g, false, 4, 2)
	mustJoin(t, g, false, -1)
	mustJoin(t, g, false, math.MinInt, 0)
	mustTell(t, "Need", g.Need([]int{1}), 0, 1)
	mustTell(t, "Ready", g.Ready(), 7, 9)
	on := []int{2}
	mustJoin(t, g, true, 1, on...)
	on[0] = 0
	mustTell(t, "Need", g.Need([]int{1}), 0, 1, 2)
}

// P1302: a change waits for those of its own buffer, too: a write brings one of a chain.
func TestWrittenOfOneBuffer(t *testing.T) {
	g := New()
	mustAdd(t, g, 0, 7)
	mustAdd(t, g, 1, 7, 0)
	mustAdd(t, g, 2, 7, 1)
	mustAdd(t, g, 3, 7)
	mustTell(t, "Blocked(7)", g.Blocked(7), 1, 2)
	mustTell(t, "Written(7)", g.Written(7), 0, 3)
	mustTell(t, "Written(7)", g.Written(7), 1)
	mustTell(t, "Next(7)", g.Next(7), 2)
	mustTell(t, "Written(7)", g.Written(7), 2)
	mustTell(t, "Written(7)", g.Written(7))
	mustTell(t, "Bufs", g.Bufs())
}

// P1302: a buffer without changes has none of anything, and a write of it does nothing.
func TestUnknownBuffer(t *testing.T) {
	g := New()
	mustAdd(t, g, 0, 7)
	for _, buf := range []int{0, -7, 8, math.MinInt, math.MaxInt} {
		mustTell(t, "Next", g.Next(buf))
		mustTell(t, "Blocked", g.Blocked(buf))
		mustTell(t, "Written", g.Written(buf))
	}
	mustTell(t, "Bufs", g.Bufs(), 7)
	mustTell(t, "Next(7)", g.Next(7), 0)
}

// P1302: Done is true of what was written alone.
func TestDone(t *testing.T) {
	g := New()
	mustAdd(t, g, 0, 7)
	mustAdd(t, g, 1, 8, 0)
	mustAdd(t, g, 2, 7)
	g.Written(8)
	g.Written(7)
	for id, want := range []bool{true, false, true, false} {
		if g.Done(id) != want {
			t.Errorf("Done(%d) is not %v", id, want)
		}
	}
	if g.Done(-1) || g.Done(math.MinInt) || g.Done(math.MaxInt) {
		t.Error("what is no change is done")
	}
	if g.Left() != 1 {
		t.Errorf("Left is %d, want 1", g.Left())
	}
}

// P1302: lists of buffers rise, negative ones first, each once.
func TestBufsAndReadyRise(t *testing.T) {
	g := New()
	for i, buf := range []int{5, -5, 5, math.MaxInt, 0, math.MinInt, -5} {
		mustAdd(t, g, i, buf)
	}
	mustAdd(t, g, 7, 3, 0)
	mustTell(t, "Ready", g.Ready(), math.MinInt, -5, 0, 5, math.MaxInt)
	mustTell(t, "Bufs", g.Bufs(), math.MinInt, -5, 0, 3, 5, math.MaxInt)
}

// P1302: Need goes by whatever way, not through what is done, and skips what is no change.
func TestNeed(t *testing.T) {
	g := New()
	mustAdd(t, g, 0, 1)
	mustAdd(t, g, 1, 2, 0)
	mustAdd(t, g, 2, 3, 0)
	mustAdd(t, g, 3, 4, 2, 1)
	mustAdd(t, g, 4, 5)
	mustAdd(t, g, 5, 6, 3)
	mustTell(t, "Need", g.Need([]int{5}), 0, 1, 2, 3, 5)
	mustTell(t, "Need", g.Need([]int{4, 1, 4, -1, 6, math.MaxInt, math.MinInt}), 0, 1, 4)
	mustTell(t, "Need", g.Need(nil))
	mustTell(t, "Need", g.Need([]int{-1, 6}))
	g.Written(1)
	g.Written(2)
	mustTell(t, "Need", g.Need([]int{5, 0}), 2, 3, 5)
	mustTell(t, "Need", g.Need([]int{0, 1}))
}

// P1302: a long chain is gone down without calls within calls, and a broad one without a search per change.
func TestNeedAndWrittenOfMany(t *testing.T) {
	const many = 200000
	g := New()
	mustAdd(t, g, 0, 0)
	for i := 1; i < many; i++ {
		mustAdd(t, g, i, i, i-1)
	}
	all := g.Need([]int{many - 1})
	mustAdd(t, g, many, many, all...)
	if len(all) != many || all[0] != 0 || all[many-1] != many-1 {
		t.Fatalf("Need tells %d changes, want %d", len(all), many)
	}
	for i := range many {
		mustTell(t, "Blocked", g.Blocked(many), many)
		mustTell(t, "Written", g.Written(i), i)
	}
	mustTell(t, "Written", g.Written(many), many)
	if g.Left() != 0 {
		t.Errorf("Left is %d, want 0", g.Left())
	}
}

// P1303: neither of a graph and its copy tells what happens to the other one.
func TestCopyIsOfItsOwn(t *testing.T) {
	g := New()
	mustAdd(t, g, 0, 7)
	mustAdd(t, g, 1, 8, 0)
	mustAdd(t, g, 2, 9, 1)
	g.Written(7)
	c := g.Copy()
	mustTell(t, "Written(8)", g.Written(8), 1)
	mustAdd(t, g, 3, 8, 2)
	mustAdd(t, g, 4, 8, 3)
	mustTell(t, "Next(8) of the copy", c.Next(8), 1)
	mustTell(t, "Blocked(9) of the copy", c.Blocked(9), 2)
	mustNotAdd(t, c, 1, 3)
	mustAdd(t, c, 3, -1, 0, 2)
	mustTell(t, "Written(8) of the copy", c.Written(8), 1)
	mustTell(t, "Written(9) of the copy", c.Written(9), 2)
	mustTell(t, "Next(-1) of the copy", c.Next(-1), 3)
	mustTell(t, "Bufs", g.Bufs(), 8, 9)
	mustTell(t, "Need", g.Need([]int{4}), 2, 3, 4)
	if !c.Done(0) || g.Left() != 3 || c.Left() != 1 {
		t.Errorf("Left is %d and %d, want 3 and 1", g.Left(), c.Left())
	}
}

// P1303: of a graph and its copy each knows what hangs on a change there, also where both add some.
func TestBothGoOn(t *testing.T) {
	for many := range 9 {
		g := New()
		mustAdd(t, g, 0, 7)
		for i := range many {
			mustAdd(t, g, i+1, 8, 0)
		}
		c := g.Copy()
		mustAdd(t, g, many+1, 9)
		mustAdd(t, g, many+2, 9, 0)
		mustAdd(t, c, many+1, 9, 0)
		for _, one := range []*Graph{g, c} {
			one.Written(7)
			mustTell(t, "Blocked(9)", one.Blocked(9))
		}
	}
}

// P1303: what is handed in is neither kept nor changed.
func TestHandedInIsNotKept(t *testing.T) {
	g := New()
	mustAdd(t, g, 0, 7)
	mustAdd(t, g, 1, 7)
	room := []int{1, 0, 1, 99}
	on := room[:3]
	mustAdd(t, g, 2, 8, on...)
	g.Need(on)
	mustTell(t, "what was handed in", room, 1, 0, 1, 99)
	on[0], on[1], on[2] = 2, 2, 2
	mustTell(t, "Need", g.Need([]int{2}), 0, 1, 2)
	g.Written(7)
	mustTell(t, "Next(8)", g.Next(8), 2)
}

// P1303: what is answered may be written into.
func TestAnswersAreNewMemory(t *testing.T) {
	g := New()
	mustAdd(t, g, 0, 7)
	mustAdd(t, g, 1, 8)
	mustAdd(t, g, 2, 7, 0)
	ids := []int{0, 2}
	ask := []func() []int{
		func() []int { return g.Next(7) },
		func() []int { return g.Blocked(7) },
		g.Bufs,
		g.Ready,
		func() []int { return g.Need(ids) },
	}
	for i, f := range ask {
		first := f()
		kept := slices.Clone(first)
		for j := range first {
			first[j] = -9
		}
		if !slices.Equal(f(), kept) {
			t.Errorf("answer %d is kept", i)
		}
	}
	mustTell(t, "ids", ids, 0, 2)
	g.Written(7)[0] = 2
	if !g.Done(0) || g.Done(2) {
		t.Error("Written's answer is kept")
	}
}

// An object's zero value is one without changes.
func TestZeroGraph(t *testing.T) {
	var g Graph
	mustTell(t, "Written", g.Written(0))
	mustTell(t, "Bufs", g.Bufs())
	mustTell(t, "Ready", g.Copy().Ready())
	mustTell(t, "Need", g.Need([]int{0}))
	if g.Done(0) || g.Left() != 0 {
		t.Error("the zero Graph has a change")
	}
	mustAdd(t, &g, 0, 7)
	mustTell(t, "Next(7)", g.Next(7), 0)
}

// plain is the chapter's words, each question answered by looking at every change.
type plain struct{ all []plainChange }

type plainChange struct {
	buf  int
	on   []int
	done bool
}

func (p *plain) copy() *plain { return &plain{slices.Clone(p.all)} }

func (p *plain) waits(id int) bool {
	return slices.ContainsFunc(p.all[id].on, func(o int) bool { return !p.all[o].done })
}

// of tells the buffer's changes that are not done and wait, or do not.
func (p *plain) of(buf int, wait bool) []int {
	var l []int
	for id, c := range p.all {
		if c.buf == buf && !c.done && p.waits(id) == wait {
			l = append(l, id)
		}
	}
	return l
}

func (p *plain) written(buf int) []int {
	l := p.of(buf, false)
	for _, id := range l {
		p.all[id].done = true
	}
	return l
}

func (p *plain) bufs(ready bool) []int {
	var l []int
	for id, c := range p.all {
		if !c.done && !(ready && p.waits(id)) {
			l = append(l, c.buf)
		}
	}
	slices.Sort(l)
	return slices.Compact(l)
}

func (p *plain) need(ids []int) []int {
	var l []int
	for id := len(p.all) - 1; id >= 0; id-- {
		asked := slices.Contains(ids, id)
		for _, above := range l {
			asked = asked || slices.Contains(p.all[above].on, id)
		}
		if asked && !p.all[id].done {
			l = append(l, id)
		}
	}
	slices.Sort(l)
	return l
}

func (p *plain) left() int {
	n := 0
	for _, c := range p.all {
		if !c.done {
			n++
		}
	}
	return n
}

// sameAs holds every question's answer against the plain one's, and P1303's consequence.
func sameAs(t *testing.T, g *Graph, p *plain) {
	t.Helper()
	for buf := -3; buf <= 4; buf++ {
		mustTell(t, "Next", g.Next(buf), p.of(buf, false)...)
		mustTell(t, "Blocked", g.Blocked(buf), p.of(buf, true)...)
	}
	for id := range p.all {
		if g.Done(id) != p.all[id].done {
			t.Errorf("Done(%d) is not %v", id, p.all[id].done)
		}
	}
	mustTell(t, "Bufs", g.Bufs(), p.bufs(false)...)
	mustTell(t, "Ready", g.Ready(), p.bufs(true)...)
	if g.Left() != p.left() {
		t.Errorf("Left is %d, want %d", g.Left(), p.left())
	}
	if g.Left() > 0 && len(g.Ready()) == 0 {
		t.Error("something is Left and nothing is Ready")
	}
}

// drawn is some numbers, a few of which may be no changes.
func drawn(r *rand.Rand, count, slack int) []int {
	var l []int
	for range r.Intn(4) {
		if n := count + 2*slack; n > 0 {
			l = append(l, r.Intn(n)-slack)
		}
	}
	return l
}

func addBoth(t *testing.T, r *rand.Rand, g *Graph, p *plain) {
	t.Helper()
	buf, on := r.Intn(6)-2, drawn(r, len(p.all), r.Intn(8)/7)
	none := func(o int) bool { return o < 0 || o >= len(p.all) }
	if slices.ContainsFunc(on, none) {
		mustNotAdd(t, g, buf, on...)
		return
	}
	mustAdd(t, g, len(p.all), buf, on...)
	p.all = append(p.all, plainChange{buf: buf, on: on})
}

// Drawn calls on graphs and copies of them answer as the plain ones do; and by writing what is Ready nothing is Left.
func TestDrawnCalls(t *testing.T) {
	for seed := range int64(300) {
		r := rand.New(rand.NewSource(seed))
		g, p := New(), &plain{}
		for range 40 {
			switch r.Intn(9) {
			case 0, 1:
				buf := r.Intn(8) - 3
				mustTell(t, "Written", g.Written(buf), p.written(buf)...)
			case 2:
				c, q := g.Copy(), p.copy()
				g.Written(r.Intn(6) - 2)
				addBoth(t, r, g, p)
				g, p = c, q
			case 3:
				ids := drawn(r, len(p.all), 2)
				mustTell(t, "Need", g.Need(ids), p.need(ids)...)
			default:
				addBoth(t, r, g, p)
			}
			sameAs(t, g, p)
			if t.Failed() {
				t.Fatalf("seed %d", seed)
			}
		}
		for g.Left() > 0 {
			buf := g.Ready()[0]
			mustTell(t, "Written", g.Written(buf), p.written(buf)...)
			sameAs(t, g, p)
		}
	}
}
