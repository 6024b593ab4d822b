package syncer

import (
	"math"
	"math/rand"
	"slices"
	"testing"
	"time"

	"lockgate/api"
	"lockgate/deps"
)

// spec is a change to be added: its buffer, and on what it hangs.
type spec struct {
	buf int
	on  []int
}

func graph(t *testing.T, l ...spec) *deps.Graph {
	t.Helper()
	g := deps.New()
	for _, c := range l {
		if _, err := g.Add(c.buf, c.on); err != api.OK {
			t.Fatalf("Add(%d, %v): %v", c.buf, c.on, err)
		}
	}
	return g
}

func mustPlan(t *testing.T, g *deps.Graph, want []int, plan ...int) {
	t.Helper()
	if l, err := Plan(g, want); err != api.OK || !slices.Equal(l, plan) {
		t.Errorf("Plan of %v is %v, %v, want %v", want, l, err, plan)
	}
}

func mustNotPlan(t *testing.T, g *deps.Graph, want ...int) {
	t.Helper()
	if l, err := Plan(g, want); err != api.ErrArg || l != nil {
		t.Errorf("Plan of %v is %v, %v, want ErrArg", want, l, err)
	}
}

func mustAll(t *testing.T, g *deps.Graph, plan ...int) {
	t.Helper()
	if l := All(g); !slices.Equal(l, plan) {
		t.Errorf("All is %v, want %v", l, plan)
	}
}

// The chapter's example.
func TestExample(t *testing.T) {
	g := graph(t, spec{7, nil}, spec{3, []int{0}})
	mustPlan(t, g, []int{1}, 7, 3)
	mustPlan(t, g, []int{0}, 7)
	mustAll(t, g, 7, 3)
}

// P2201: no graph, or what is no change of it, wherever it stands in want, done or not the others.
func TestPlanRefuses(t *testing.T) {
	mustNotPlan(t, nil)
	mustNotPlan(t, nil, 0)
	mustNotPlan(t, deps.New(), 0)
	g := graph(t, spec{7, nil}, spec{3, []int{0}}, spec{5, nil})
	for _, none := range []int{-1, 3, 4, math.MinInt, math.MaxInt} {
		mustNotPlan(t, g, none)
		mustNotPlan(t, g, 1, none)
		mustNotPlan(t, g, none, 1)
		mustNotPlan(t, g, 0, none, 2)
	}
	g.Written(7)
	mustNotPlan(t, g, 0, 3)
	mustNotPlan(t, g, -1, 0)
}

// P2201: where nothing is to be done nothing is written.
func TestNothingToWrite(t *testing.T) {
	mustAll(t, nil)
	mustAll(t, deps.New())
	mustAll(t, &deps.Graph{})
	mustPlan(t, deps.New(), nil)
	mustPlan(t, &deps.Graph{}, []int{})
	g := graph(t, spec{7, nil}, spec{3, []int{0}})
	mustPlan(t, g, nil)
	g.Written(7)
	mustPlan(t, g, []int{0, 0})
	mustPlan(t, g, []int{0, 1, 0}, 3)
	g.Written(3)
	mustPlan(t, g, []int{1, 0})
	mustAll(t, g)
}

// P2201: the least buffer comes first, whatever number it has and in whatever order its changes were added or are wanted.
func TestLeastFirst(t *testing.T) {
	g := graph(t, spec{math.MaxInt, nil}, spec{0, nil}, spec{math.MinInt, nil}, spec{-1, nil}, spec{1, nil})
	mustAll(t, g, math.MinInt, -1, 0, 1, math.MaxInt)
	mustPlan(t, g, []int{0, 4, 1, 3, 2}, math.MinInt, -1, 0, 1, math.MaxInt)
	mustPlan(t, g, []int{4, 0}, 1, math.MaxInt)
}

// P2201: it is the least that has one now: a lesser one that a write lets go comes next, ahead of a greater one that could go all along.
func TestLeastOfNow(t *testing.T) {
	g := graph(t, spec{5, nil}, spec{9, nil}, spec{2, []int{0}}, spec{7, []int{2}}, spec{1, []int{1}})
	mustAll(t, g, 5, 2, 7, 9, 1)
}

// P2201: a buffer that has a Next is passed over if none of these is needed; and it is not written for a Next that is not needed while the one that is needed is blocked.
func TestNeededOnly(t *testing.T) {
	g := graph(t, spec{1, nil}, spec{4, nil}, spec{1, []int{1}}, spec{2, []int{0}})
	mustPlan(t, g, []int{1}, 4)
	mustPlan(t, g, []int{2}, 4, 1)
	mustPlan(t, g, []int{3}, 1, 2)
	mustPlan(t, g, []int{3, 2}, 1, 2, 4, 1)
}

// P2201: a write brings all of the buffer's Next to the disk, so what is wanted of one buffer takes one write if it can go at once.
func TestOneWriteBringsAll(t *testing.T) {
	g := graph(t, spec{6, nil}, spec{6, nil}, spec{6, nil}, spec{3, []int{0}}, spec{3, []int{2}})
	mustPlan(t, g, []int{3, 4}, 6, 3)
	mustPlan(t, g, []int{0, 1, 2}, 6)
	mustAll(t, g, 6, 3)
}

// P2201: what hangs on a change of its own buffer needs a write of its own.
func TestChainOfOneBuffer(t *testing.T) {
	g := graph(t, spec{6, nil}, spec{6, []int{0}}, spec{6, []int{0, 1}}, spec{6, nil})
	mustPlan(t, g, []int{0}, 6)
	mustPlan(t, g, []int{2}, 6, 6, 6)
	mustAll(t, g, 6, 6, 6)
}

// P2201: a change waits for all that it hangs on.
func TestWaitsForAll(t *testing.T) {
	g := graph(t, spec{8, nil}, spec{9, nil}, spec{1, []int{0, 1, 0}})
	mustPlan(t, g, []int{2}, 8, 9, 1)
	g.Written(9)
	mustPlan(t, g, []int{2}, 8, 1)
	g.Written(8)
	mustPlan(t, g, []int{2}, 1)
}

// P2202: the graph stays as it is, and so does want with its spare room.
func TestNothingChanges(t *testing.T) {
	g := graph(t, spec{7, nil}, spec{3, []int{0}}, spec{5, nil}, spec{7, []int{1}})
	g.Written(5)
	want := []int{3, 1, 3, 99, 98}
	mustPlan(t, g, want[:3], 7, 3, 7)
	mustAll(t, g, 7, 3, 7)
	mustNotPlan(t, g, want...)
	if !slices.Equal(want, []int{3, 1, 3, 99, 98}) {
		t.Errorf("want is %v now", want)
	}
	if g.Left() != 3 || g.Done(0) || !g.Done(2) || !slices.Equal(g.Next(7), []int{0}) || !slices.Equal(g.Blocked(7), []int{3}) {
		t.Error("the graph has changed")
	}
	if id, err := g.Add(1, nil); id != 4 || err != api.OK {
		t.Errorf("the next change is %d, %v", id, err)
	}
}

// P2202: each answer is new memory.
func TestAnswersAreNew(t *testing.T) {
	g := graph(t, spec{7, nil}, spec{3, []int{0}})
	l, _ := Plan(g, []int{1})
	m := All(g)
	l[0], m[0] = 99, 98
	mustPlan(t, g, []int{1}, 7, 3)
	mustAll(t, g, 7, 3)
	if l[0] != 99 || m[0] != 98 {
		t.Error("answers share memory")
	}
}

// plain is the chapter's words, asked of a graph of which the buffers are written.
func plain(g *deps.Graph, want []int) []int {
	var l []int
	for g = g.Copy(); slices.ContainsFunc(want, func(id int) bool { return !g.Done(id) }); {
		need := g.Need(want)
		for _, buf := range g.Ready() {
			if slices.ContainsFunc(g.Next(buf), func(id int) bool { return slices.Contains(need, id) }) {
				g.Written(buf)
				l = append(l, buf)
				break
			}
		}
	}
	return l
}

// drawn is a graph of some changes, a few of which are done.
func drawn(t *testing.T, r *rand.Rand) (*deps.Graph, []int) {
	g, bufs, wide := deps.New(), 1+r.Intn(9), 1+r.Intn(4)
	var all []int
	for id := range r.Intn(30) {
		var on []int
		for range r.Intn(wide) {
			if id > 0 {
				on = append(on, r.Intn(id))
			}
		}
		if _, err := g.Add(r.Intn(bufs)-3, on); err != api.OK {
			t.Fatalf("Add of %v: %v", on, err)
		}
		all = append(all, id)
		if r.Intn(12) == 0 {
			g.Written(r.Intn(bufs) - 3)
		}
	}
	return g, all
}

// mustSuffice holds that a plan has all of want done, with no buffer more often than it has changes.
func mustSuffice(t *testing.T, g *deps.Graph, want, plan []int) {
	t.Helper()
	times := make(map[int]int)
	for _, buf := range plan {
		times[buf]++
	}
	for buf, n := range times {
		if n > len(g.Next(buf))+len(g.Blocked(buf)) {
			t.Errorf("buffer %d stands %d times in %v", buf, n, plan)
		}
	}
	h := g.Copy()
	for _, buf := range plan {
		h.Written(buf)
	}
	for _, id := range want {
		if !h.Done(id) {
			t.Errorf("%d is not done behind %v", id, plan)
		}
	}
}

// P2201, P2202: drawn graphs are written as the chapter's words say, and stay as they are.
func TestDrawnGraphs(t *testing.T) {
	for seed := range int64(2000) {
		r := rand.New(rand.NewSource(seed))
		g, all := drawn(t, r)
		left := g.Left()
		var want []int
		for range r.Intn(5) {
			if len(all) > 0 {
				want = append(want, all[r.Intn(len(all))])
			}
		}
		plan := plain(g, want)
		mustPlan(t, g, want, plan...)
		mustSuffice(t, g, want, plan)
		every := plain(g, all)
		mustAll(t, g, every...)
		mustPlan(t, g, all, every...)
		mustSuffice(t, g, all, every)
		if g.Left() != left {
			t.Errorf("Left is %d, was %d", g.Left(), left)
		}
		if t.Failed() {
			t.Fatalf("seed %d", seed)
		}
	}
}

// P2201: what hangs on something that was added behind it is written behind that, too.
func TestJoined(t *testing.T) {
	g := graph(t, spec{1, nil}, spec{2, nil}, spec{3, nil})
	if !g.Join(0, []int{2}) {
		t.Fatal("no Join")
	}
	mustPlan(t, g, []int{0}, 3, 1)
	mustAll(t, g, 2, 3, 1)
}

// Long rows are planned in a time that goes with their length: a chain through many buffers, and one buffer that each of many others lets go on.
func TestLongRows(t *testing.T) {
	const long = 100000
	began := time.Now()
	chain, comb := deps.New(), deps.New()
	for id := range long {
		on := []int{id - 1}
		if id == 0 {
			on = nil
		}
		chain.Add(long-id, on)
		tooth, _ := comb.Add(id+1, nil)
		comb.Add(math.MaxInt, []int{tooth})
	}
	if l, err := Plan(chain, []int{long - 1}); err != api.OK || len(l) != long || l[0] != long || l[long-1] != 1 {
		t.Errorf("the chain's plan has %d buffers, %v", len(l), err)
	}
	if l := All(comb); len(l) != long+1 || l[long] != math.MaxInt {
		t.Errorf("the comb's plan has %d buffers", len(l))
	}
	if took := time.Since(began); took > 20*time.Second {
		t.Errorf("it took %v", took)
	}
}
