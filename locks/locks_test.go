package locks

import (
	"math"
	"math/rand"
	"slices"
	"testing"

	"lockgate/api"
)

func alone(thread, thing int) api.Lock {
	return api.Lock{Thread: thread, Thing: thing, Alone: true}
}

func beside(thread, thing int) api.Lock { return api.Lock{Thread: thread, Thing: thing} }

func mustGrant(t *testing.T, x *Table, l ...api.Lock) {
	t.Helper()
	for _, one := range l {
		if !x.Ask(one) || !x.Holds(one.Thread, one.Thing) {
			t.Fatalf("%v is not granted", one)
		}
		mustNotWait(t, x, one.Thread)
	}
}

func mustWait(t *testing.T, x *Table, l ...api.Lock) {
	t.Helper()
	for _, one := range l {
		if x.Ask(one) || x.Holds(one.Thread, one.Thing) {
			t.Fatalf("%v is granted", one)
		}
		if got, ok := x.Waits(one.Thread); !ok || got != one {
			t.Fatalf("Waits(%d) is %v, %v, want %v", one.Thread, got, ok, one)
		}
	}
}

func mustNotWait(t *testing.T, x *Table, thread int) {
	t.Helper()
	if l, ok := x.Waits(thread); ok || l != (api.Lock{}) {
		t.Errorf("Waits(%d) is %v, %v, want nothing", thread, l, ok)
	}
}

func mustRelease(t *testing.T, x *Table, thread, thing int, want ...api.Lock) {
	t.Helper()
	if l := x.Release(thread, thing); !slices.Equal(l, want) {
		t.Fatalf("Release(%d, %d) is %v, want %v", thread, thing, l, want)
	}
	for _, l := range want {
		mustNotWait(t, x, l.Thread)
	}
}

func mustTell(t *testing.T, what string, got []int, want ...int) {
	t.Helper()
	if !slices.Equal(got, want) {
		t.Errorf("%s is %v, want %v", what, got, want)
	}
}

// P1501: beside others a lock is granted only where none of them is Alone.
func TestAskBesideOthers(t *testing.T) {
	for _, first := range []bool{false, true} {
		for _, second := range []bool{false, true} {
			x := New()
			mustGrant(t, x, api.Lock{Thread: 1, Thing: 5, Alone: first})
			l := api.Lock{Thread: 2, Thing: 5, Alone: second}
			if first || second {
				mustWait(t, x, l)
			} else {
				mustGrant(t, x, l)
			}
		}
	}
}

// P1501: who comes while another one waits, waits behind it, though it could stand beside those that hold the thing.
func TestAskBehindARow(t *testing.T) {
	x := New()
	mustGrant(t, x, beside(1, 5), beside(2, 5))
	mustWait(t, x, alone(3, 5), beside(4, 5), alone(6, 5), beside(7, 5))
	mustTell(t, "Holders", x.Holders(5), 1, 2)
	mustRelease(t, x, 1, 5)
	mustRelease(t, x, 2, 5, alone(3, 5))
	mustRelease(t, x, 3, 5, beside(4, 5))
	mustRelease(t, x, 4, 5, alone(6, 5))
	mustRelease(t, x, 6, 5, beside(7, 5))
	mustGrant(t, x, beside(8, 5))
}

// P1501: other things are other things.
func TestAskOtherThing(t *testing.T) {
	x := New()
	mustGrant(t, x, alone(1, 5), alone(1, 6), alone(2, 7), alone(2, -5))
	mustWait(t, x, alone(3, 5))
	mustGrant(t, x, alone(4, 8))
}

// P1501: a thread that waits asks in vain, and is not set into another row.
func TestAskWhileWaiting(t *testing.T) {
	x := New()
	mustGrant(t, x, alone(1, 5), alone(2, 6))
	mustWait(t, x, alone(3, 5))
	for _, l := range []api.Lock{alone(3, 7), beside(3, 7), alone(3, 6), alone(3, 5), beside(3, 5)} {
		if x.Ask(l) {
			t.Errorf("%v is granted", l)
		}
		if got, ok := x.Waits(3); !ok || got != alone(3, 5) {
			t.Errorf("Waits is %v, %v", got, ok)
		}
	}
	mustTell(t, "Holders(7)", x.Holders(7))
	mustRelease(t, x, 2, 6)
	mustRelease(t, x, 1, 5, alone(3, 5))
	mustRelease(t, x, 3, 5)
	mustGrant(t, x, alone(3, 7))
}

// P1501: a thread that has the thing asks in vain, however it asks, and stays what it is.
func TestAskWhatIsHeld(t *testing.T) {
	for _, first := range []bool{false, true} {
		for _, second := range []bool{false, true} {
			x := New()
			mustGrant(t, x, api.Lock{Thread: 1, Thing: 5, Alone: first})
			if x.Ask(api.Lock{Thread: 1, Thing: 5, Alone: second}) {
				t.Errorf("granted twice")
			}
			mustNotWait(t, x, 1)
			if l := beside(2, 5); first {
				mustWait(t, x, l)
			} else {
				mustGrant(t, x, l)
			}
			mustRelease(t, x, 2, 5)
			if x.Release(1, 5); x.Holds(1, 5) {
				t.Errorf("held twice")
			}
		}
	}
}

// P1501: a thing that nobody holds any more is as one that nobody held.
func TestAskAnew(t *testing.T) {
	x := New()
	mustGrant(t, x, alone(1, 5))
	mustRelease(t, x, 1, 5)
	mustGrant(t, x, beside(2, 5), beside(1, 5))
	mustRelease(t, x, 1, 5)
	mustWait(t, x, alone(1, 5))
	mustRelease(t, x, 2, 5, alone(1, 5))
	mustRelease(t, x, 1, 5)
	mustGrant(t, x, alone(2, 5))
}

// P1502: those that can stand beside each other are granted together, up to one that cannot.
func TestReleaseGrantsTheBeginning(t *testing.T) {
	x := New()
	mustGrant(t, x, alone(1, 5))
	mustWait(t, x, beside(9, 5), beside(2, 5), beside(7, 5), alone(3, 5), beside(4, 5))
	mustRelease(t, x, 1, 5, beside(9, 5), beside(2, 5), beside(7, 5))
	mustTell(t, "Holders", x.Holders(5), 2, 7, 9)
	mustRelease(t, x, 7, 5)
	mustRelease(t, x, 9, 5)
	mustRelease(t, x, 2, 5, alone(3, 5))
	mustTell(t, "Holders", x.Holders(5), 3)
	mustRelease(t, x, 3, 5, beside(4, 5))
}

// P1502: a release of one that is not Alone grants nothing to one that is, while others hold the thing; nor to those behind it.
func TestReleaseOfOneAmongSeveral(t *testing.T) {
	x := New()
	mustGrant(t, x, beside(1, 5), beside(2, 5), beside(3, 5))
	mustWait(t, x, alone(4, 5), beside(1000, 5))
	mustRelease(t, x, 2, 5)
	mustRelease(t, x, 2, 5)
	mustRelease(t, x, 1, 5)
	mustTell(t, "Holders", x.Holders(5), 3)
	mustRelease(t, x, 3, 5, alone(4, 5))
}

// P1502: of what a thread does not hold nothing is released, also if it waits for it.
func TestReleaseOfWhatIsNotHeld(t *testing.T) {
	x := New()
	mustGrant(t, x, alone(1, 5))
	mustWait(t, x, alone(2, 5), alone(3, 5))
	for _, l := range []api.Lock{{Thread: 2, Thing: 5}, {Thread: 3, Thing: 5}, {Thread: 1, Thing: 6}, {Thread: 4, Thing: 5}, {Thread: 5, Thing: 1}} {
		if got := x.Release(l.Thread, l.Thing); got != nil {
			t.Errorf("Release of %v is %v, want nil", l, got)
		}
	}
	mustTell(t, "Holders", x.Holders(5), 1)
	mustRelease(t, x, 1, 5, alone(2, 5))
	mustRelease(t, x, 2, 5, alone(3, 5))
}

// P1502: a thread may release one thing while it waits for another one, which it goes on doing.
func TestReleaseWhileWaiting(t *testing.T) {
	x := New()
	mustGrant(t, x, alone(1, 5), alone(2, 6))
	mustWait(t, x, alone(1, 6), alone(2, 5))
	mustRelease(t, x, 1, 5, alone(2, 5))
	if l, ok := x.Waits(1); !ok || l != alone(1, 6) {
		t.Errorf("Waits(1) is %v, %v", l, ok)
	}
	mustRelease(t, x, 2, 6, alone(1, 6))
}

// P1502: a thread that was granted a lock from a row may ask again, also for what it released.
func TestBackIntoTheRow(t *testing.T) {
	x := New()
	mustGrant(t, x, alone(1, 5))
	for range 1000 {
		mustWait(t, x, alone(2, 5))
		mustRelease(t, x, 1, 5, alone(2, 5))
		mustWait(t, x, alone(1, 5))
		mustRelease(t, x, 2, 5, alone(1, 5))
	}
}

// P1502: what nobody has or waits for tells nothing.
func TestUnknownNumbers(t *testing.T) {
	x := New()
	mustGrant(t, x, alone(1, 5))
	mustWait(t, x, alone(2, 5))
	mustNotWait(t, x, 1)
	mustNotWait(t, x, 3)
	mustTell(t, "Holders", x.Holders(1))
	if x.Holds(5, 1) || x.Holds(2, 5) || x.Holds(1, 6) || x.Holds(3, 5) {
		t.Error("Holds tells what is not so")
	}
}

// The chapter's example.
func TestExample(t *testing.T) {
	x := New()
	mustGrant(t, x, alone(1, 'a'), alone(2, 'b'))
	mustWait(t, x, alone(1, 'b'))
	mustTell(t, "Stuck", x.Stuck())
	mustWait(t, x, alone(2, 'a'))
	mustTell(t, "Stuck", x.Stuck(), 1, 2)
}

// P1503: a chain is not stuck, however long, while its end does not wait; who waits behind a ring is, though nobody waits for it.
func TestStuckBehindARing(t *testing.T) {
	x := New()
	for i := range 9 {
		mustGrant(t, x, alone(i, i))
	}
	for i := range 8 {
		mustWait(t, x, alone(8-i, 7-i))
	}
	mustTell(t, "Stuck", x.Stuck())
	mustWait(t, x, beside(0, 4))
	mustTell(t, "Stuck", x.Stuck(), 0, 1, 2, 3, 4, 5, 6, 7, 8)
	mustRelease(t, x, 4, 4, alone(5, 4))
	mustTell(t, "Stuck", x.Stuck())
}

// P1503: one that is stuck and not Alone hinders those that are Alone, and those behind them, but not those beside it.
func TestStuckBesideOthers(t *testing.T) {
	x := New()
	mustGrant(t, x, alone(1, 1), alone(2, 2), beside(1, 5), alone(7, 6))
	mustWait(t, x, alone(1, 2), alone(2, 1))
	mustGrant(t, x, beside(3, 5), beside(4, 5))
	mustWait(t, x, beside(4, 6))
	mustTell(t, "Stuck", x.Stuck(), 1, 2)
	mustWait(t, x, alone(8, 5), beside(9, 5))
	mustTell(t, "Stuck", x.Stuck(), 1, 2, 8, 9)
}

// P1503: one goes on that waits behind another one, which goes on once it has all.
func TestStuckAgainAndAgain(t *testing.T) {
	x := New()
	mustGrant(t, x, alone(1, 1), alone(2, 2), beside(3, 3), beside(4, 3))
	mustWait(t, x, alone(1, 2), alone(2, 3), beside(3, 1), beside(5, 3))
	mustTell(t, "Stuck", x.Stuck(), 1, 2, 3, 5)
	x.Release(3, 3)
	mustTell(t, "Stuck", x.Stuck())
}

// P1503: a ring is stuck also where a row makes it, not those that hold.
func TestStuckByARow(t *testing.T) {
	x := New()
	mustGrant(t, x, beside(1, 5), alone(2, 6))
	mustWait(t, x, alone(2, 5), beside(3, 5))
	mustTell(t, "Stuck", x.Stuck())
	mustGrant(t, x, beside(4, 7))
	mustWait(t, x, beside(1, 6))
	mustTell(t, "Stuck", x.Stuck(), 1, 2, 3)
}

// P1503: asking whether somebody is stuck releases nothing.
func TestStuckChangesNothing(t *testing.T) {
	x := New()
	mustGrant(t, x, beside(1, 5), beside(2, 5), alone(3, 6))
	mustWait(t, x, alone(4, 5), beside(5, 5))
	for range 3 {
		mustTell(t, "Stuck", x.Stuck())
		mustTell(t, "Holders(5)", x.Holders(5), 1, 2)
		mustTell(t, "Holders(6)", x.Holders(6), 3)
	}
	mustRelease(t, x, 1, 5)
	mustRelease(t, x, 2, 5, alone(4, 5))
	mustRelease(t, x, 4, 5, beside(5, 5))
}

// P1504: threads and things are any numbers, and lists rise from the negative ones on.
func TestAnyNumbers(t *testing.T) {
	x := New()
	numbers := []int{0, math.MaxInt, -1, math.MinInt, 1}
	for _, thing := range numbers {
		for _, thread := range numbers {
			mustGrant(t, x, beside(thread, thing))
		}
		mustTell(t, "Holders", x.Holders(thing), math.MinInt, -1, 0, 1, math.MaxInt)
	}
	mustRelease(t, x, -1, math.MinInt)
	mustRelease(t, x, math.MinInt, -1)
	mustWait(t, x, alone(-1, math.MinInt), alone(math.MinInt, -1))
	mustTell(t, "Stuck", x.Stuck(), math.MinInt, -1)
}

// P1504: what is answered may be written into, and two tables have nothing in common.
func TestAnswersAreNewMemory(t *testing.T) {
	x, y := New(), New()
	mustGrant(t, x, alone(1, 5))
	mustGrant(t, y, alone(2, 5))
	mustWait(t, x, beside(2, 5), beside(3, 5), alone(4, 5), alone(5, 5))
	x.Holders(5)[0] = 9
	mustTell(t, "Holders", x.Holders(5), 1)
	l := x.Release(1, 5)
	l = append(l[:0], alone(7, 7), alone(8, 8), alone(9, 9))
	mustTell(t, "Holders", x.Holders(5), 2, 3)
	mustRelease(t, x, 2, 5)
	mustRelease(t, x, 3, 5, alone(4, 5))
	mustRelease(t, x, 4, 5, alone(5, 5))
	mustTell(t, "Holders of the other table", y.Holders(5), 2)
	mustNotWait(t, y, 2)
	if len(l) != 3 || y.Holds(1, 5) {
		t.Error("two tables have something in common")
	}
}

// An object's zero value is one in which nobody holds anything.
func TestZeroTable(t *testing.T) {
	var x Table
	mustTell(t, "Holders", x.Holders(0))
	mustTell(t, "Stuck", x.Stuck())
	mustRelease(t, &x, 0, 0)
	mustNotWait(t, &x, 0)
	mustGrant(t, &x, api.Lock{})
	mustWait(t, &x, alone(1, 0))
}

// A long row and many holders are gone through without a search per thread.
func TestMany(t *testing.T) {
	const many = 60000
	x := New()
	mustGrant(t, x, alone(-1, 0))
	for i := range many {
		mustWait(t, x, beside(i, 0))
	}
	if l := x.Release(-1, 0); len(l) != many || l[many-1] != beside(many-1, 0) {
		t.Fatalf("%d are granted, want %d", len(l), many)
	}
	mustWait(t, x, alone(-1, 0))
	for i := 1; i < many; i++ {
		mustGrant(t, x, alone(i, i))
	}
	for i := 2; i < many; i++ {
		mustWait(t, x, alone(i, i-1))
	}
	mustTell(t, "Stuck", x.Stuck())
	mustWait(t, x, alone(1, many-1))
	if l := x.Stuck(); len(l) != many || l[0] != -1 || l[many-1] != many-1 {
		t.Errorf("%d are stuck, want %d", len(l), many)
	}
	for i := range many - 1 {
		mustRelease(t, x, i, 0)
	}
	mustRelease(t, x, many-1, 0, alone(-1, 0))
}

// plain is the chapter's words, each question answered by looking at all locks.
type plain struct{ has, row []api.Lock }

func (p *plain) holds(thread, thing int) bool {
	return slices.ContainsFunc(p.has, func(l api.Lock) bool { return l.Thread == thread && l.Thing == thing })
}

func (p *plain) waits(thread int) (api.Lock, bool) {
	for _, l := range p.row {
		if l.Thread == thread {
			return l, true
		}
	}
	return api.Lock{}, false
}

func (p *plain) fits(l api.Lock) bool {
	return !slices.ContainsFunc(p.has, func(o api.Lock) bool { return o.Thing == l.Thing && (o.Alone || l.Alone) })
}

// next is where the first one of the thing's row stands, or -1.
func (p *plain) next(thing int) int {
	return slices.IndexFunc(p.row, func(o api.Lock) bool { return o.Thing == thing })
}

func (p *plain) ask(l api.Lock) bool {
	if _, waits := p.waits(l.Thread); waits || p.holds(l.Thread, l.Thing) {
		return false
	}
	granted := p.next(l.Thing) < 0 && p.fits(l)
	if granted {
		p.has = append(p.has, l)
	} else {
		p.row = append(p.row, l)
	}
	return granted
}

func (p *plain) release(thread, thing int) []api.Lock {
	if !p.holds(thread, thing) {
		return nil
	}
	p.has = slices.DeleteFunc(p.has, func(l api.Lock) bool { return l.Thread == thread && l.Thing == thing })
	var l []api.Lock
	for i := p.next(thing); i >= 0 && p.fits(p.row[i]); i = p.next(thing) {
		l = append(l, p.row[i])
		p.has = append(p.has, p.row[i])
		p.row = slices.Delete(p.row, i, i+1)
	}
	return l
}

func (p *plain) holders(thing int) []int {
	var l []int
	for _, h := range p.has {
		if h.Thing == thing {
			l = append(l, h.Thread)
		}
	}
	slices.Sort(l)
	return l
}

func (p *plain) stuck() []int {
	q := &plain{slices.Clone(p.has), slices.Clone(p.row)}
	for i := 0; i < len(q.has); {
		if _, waits := q.waits(q.has[i].Thread); waits {
			i++
		} else {
			q.release(q.has[i].Thread, q.has[i].Thing)
			i = 0
		}
	}
	var l []int
	for _, o := range q.row {
		l = append(l, o.Thread)
	}
	slices.Sort(l)
	return l
}

func sameAs(t *testing.T, x *Table, p *plain, threads, things int) {
	t.Helper()
	mustTell(t, "Stuck", x.Stuck(), p.stuck()...)
	for thing := range things {
		mustTell(t, "Holders", x.Holders(thing), p.holders(thing)...)
		for thread := range threads {
			if x.Holds(thread, thing) != p.holds(thread, thing) {
				t.Errorf("Holds(%d, %d) is not as it should be", thread, thing)
			}
		}
	}
	for thread := range threads {
		got, ok := x.Waits(thread)
		if want, waits := p.waits(thread); got != want || ok != waits {
			t.Errorf("Waits(%d) is %v, %v, want %v, %v", thread, got, ok, want, waits)
		}
	}
}

// Drawn calls answer as the plain ones do.
func TestDrawnCalls(t *testing.T) {
	for seed := range int64(400) {
		r := rand.New(rand.NewSource(seed))
		x, p := New(), &plain{}
		threads, things := 1+r.Intn(8), 1+r.Intn(5)
		asks, others := 2+r.Intn(4), 1+r.Intn(4)
		for range 60 {
			thread, thing := r.Intn(threads), r.Intn(things)
			if r.Intn(asks) > 0 {
				l := api.Lock{Thread: thread, Thing: thing, Alone: r.Intn(others) == 0}
				if x.Ask(l) != p.ask(l) {
					t.Errorf("Ask(%v) is not as it should be", l)
				}
			} else if got, want := x.Release(thread, thing), p.release(thread, thing); !slices.Equal(got, want) {
				t.Errorf("Release(%d, %d) is %v, want %v", thread, thing, got, want)
			}
			sameAs(t, x, p, threads, things)
			if t.Failed() {
				t.Fatalf("seed %d", seed)
			}
		}
	}
}

// Behind all releases nothing is kept: a table does not grow with what is over.
func TestNothingIsKept(t *testing.T) {
	x := New()
	for i := range 1000 {
		mustGrant(t, x, alone(i, i))
		mustWait(t, x, alone(-1, i))
		mustRelease(t, x, i, i, alone(-1, i))
		mustRelease(t, x, -1, i)
	}
	if len(x.held)+len(x.rows)+len(x.waits) != 0 {
		t.Errorf("%d, %d and %d are kept", len(x.held), len(x.rows), len(x.waits))
	}
}
