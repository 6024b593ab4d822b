package cache

import (
	"bytes"
	"math"
	"math/rand"
	"slices"
	"testing"

	"lockgate/api"
	"lockgate/disk"
)

// row has bytes that differ from place to place, so that a sector at the wrong place shows.
func row(seed byte) []byte {
	b := make([]byte, api.Block)
	for i := range b {
		b[i] = seed + byte(i) + byte(i/api.Sector)*101
	}
	return b
}

// diskOf has blocks of row(0), row(1), ..
func diskOf(blocks int) *disk.Disk {
	var image []byte
	for i := range blocks {
		image = append(image, row(byte(i))...)
	}
	return disk.Of(image)
}

func mustGet(t *testing.T, c *Cache, block int, want []byte) {
	t.Helper()
	if got, ok := c.Get(block); !ok || !bytes.Equal(got, want) {
		t.Errorf("Get(%d): ok %v, %d bytes, not the ones of the block", block, ok, len(got))
	}
}

func mustNotGet(t *testing.T, c *Cache, block int) {
	t.Helper()
	if got, ok := c.Get(block); ok || got != nil {
		t.Errorf("Get(%d): ok %v, %d bytes, want nil, false", block, ok, len(got))
	}
}

func mustRelease(t *testing.T, c *Cache, block int, want bool) {
	t.Helper()
	if c.Release(block) != want {
		t.Errorf("Release(%d) is not %v", block, want)
	}
}

func mustPut(t *testing.T, c *Cache, block int, b []byte, want bool) {
	t.Helper()
	if c.Put(block, b) != want {
		t.Errorf("Put(%d) of %d bytes is not %v", block, len(b), want)
	}
}

func mustFlush(t *testing.T, c *Cache, block int, want bool) {
	t.Helper()
	if c.Flush(block) != want {
		t.Errorf("Flush(%d) is not %v", block, want)
	}
}

func mustHold(t *testing.T, c *Cache, want ...int) {
	t.Helper()
	if got := c.Held(); !slices.Equal(got, want) {
		t.Errorf("Held is %v, want %v", got, want)
	}
}

func mustHaveRead(t *testing.T, c *Cache, want int) {
	t.Helper()
	if got := c.Reads(); got != want {
		t.Errorf("Reads is %d, want %d", got, want)
	}
}

func mustHaveWritten(t *testing.T, d *disk.Disk, sectors int) {
	t.Helper()
	if got := len(d.Log()); got != sectors {
		t.Errorf("%d sectors were written, want %d", got, sectors)
	}
}

func mustLie(t *testing.T, d *disk.Disk, block int, want []byte) {
	t.Helper()
	if got, ok := d.Read(block); !ok || !bytes.Equal(got, want) {
		t.Errorf("block %d of the disk is not what was to be written", block)
	}
}

// use gets blocks and releases each at once.
func use(t *testing.T, c *Cache, blocks ...int) {
	t.Helper()
	for _, n := range blocks {
		if _, ok := c.Get(n); !ok {
			t.Errorf("Get(%d) is refused", n)
		}
		mustRelease(t, c, n, true)
	}
}

// soil makes blocks dirty and releases each.
func soil(t *testing.T, c *Cache, b []byte, blocks ...int) {
	t.Helper()
	for _, n := range blocks {
		if _, ok := c.Get(n); !ok {
			t.Errorf("Get(%d) is refused", n)
		}
		mustPut(t, c, n, b, true)
		mustRelease(t, c, n, true)
	}
}

// P1201

func TestGetTellsBlocksOfTheDisk(t *testing.T) {
	c := New(diskOf(3), 2)
	for _, n := range []int{2, 0, 1, 1, 2} {
		mustGet(t, c, n, row(byte(n)))
	}
}

func TestGetOfNoSuchBlock(t *testing.T) {
	c := New(diskOf(3), 2)
	for _, n := range []int{-1, 3, 4, math.MinInt, math.MaxInt, math.MaxInt/api.Block + 1} {
		mustNotGet(t, c, n)
		mustRelease(t, c, n, false)
		mustPut(t, c, n, row(9), false)
		mustFlush(t, c, n, true)
	}
	mustHold(t, c)
	mustNotGet(t, New(disk.New(0), 1), 0)
}

func TestGetOfADeadDiskTellsOnlyWhatIsKept(t *testing.T) {
	d := diskOf(3)
	c := New(d, 3)
	use(t, c, 1)
	d.Cut(0)
	d.Write(2, row(9))
	mustGet(t, c, 1, row(1))
	mustNotGet(t, c, 0)
	mustRelease(t, c, 0, false)
	mustHold(t, c, 1)
	d.Start()
	mustGet(t, c, 0, row(0))
}

func TestGetTellsWhatIsKeptAndNotWhatLiesThereNow(t *testing.T) {
	d := diskOf(3)
	c := New(d, 1)
	use(t, c, 1)
	d.Write(1, row(9))
	mustGet(t, c, 1, row(1))
	mustRelease(t, c, 1, true)
	use(t, c, 2)
	mustGet(t, c, 1, row(9))
}

func TestEachGetIsAPinMore(t *testing.T) {
	c := New(diskOf(3), 2)
	mustRelease(t, c, 1, false)
	for range 3 {
		mustGet(t, c, 1, row(1))
	}
	mustGet(t, c, 2, row(2))
	for range 3 {
		mustRelease(t, c, 1, true)
	}
	mustRelease(t, c, 1, false)
	mustRelease(t, c, 2, true)
	mustRelease(t, c, 2, false)
	mustRelease(t, c, 0, false)
	mustGet(t, c, 1, row(1))
	mustRelease(t, c, 1, true)
	mustRelease(t, c, 1, false)
}

func TestFailedGetIsNoPin(t *testing.T) {
	d := diskOf(2)
	c := New(d, 2)
	d.Cut(0)
	d.Write(0, row(9))
	mustNotGet(t, c, 1)
	d.Start()
	mustGet(t, c, 1, row(1))
	mustRelease(t, c, 1, true)
	mustRelease(t, c, 1, false)
}

func TestPutReplacesAPinnedBlock(t *testing.T) {
	d := diskOf(3)
	c := New(d, 3)
	mustGet(t, c, 1, row(1))
	mustPut(t, c, 1, row(7), true)
	mustGet(t, c, 1, row(7))
	mustPut(t, c, 1, row(8), true)
	mustGet(t, c, 1, row(8))
	mustGet(t, c, 0, row(0))
	mustGet(t, c, 2, row(2))
	mustHaveWritten(t, d, 0)
}

func TestPutOfABlockWithoutPin(t *testing.T) {
	d := diskOf(3)
	c := New(d, 3)
	mustPut(t, c, 1, row(7), false)
	use(t, c, 1)
	mustPut(t, c, 1, row(7), false)
	mustFlush(t, c, 1, true)
	mustHaveWritten(t, d, 0)
	mustGet(t, c, 1, row(1))
	mustPut(t, c, 1, row(7), true)
	mustRelease(t, c, 1, true)
	mustPut(t, c, 1, row(8), false)
	mustGet(t, c, 1, row(7))
	mustHold(t, c, 1)
}

func TestPutOfAnotherLength(t *testing.T) {
	d := diskOf(2)
	c := New(d, 2)
	mustGet(t, c, 1, row(1))
	long := append(row(7), 1)
	for _, b := range [][]byte{nil, {}, {1}, long[:512], long[:1023], long, make([]byte, 2048)} {
		mustPut(t, c, 1, b, false)
	}
	mustFlush(t, c, 1, true)
	mustHaveWritten(t, d, 0)
	mustGet(t, c, 1, row(1))
}

func TestFlushWritesADirtyBlockOnce(t *testing.T) {
	d := diskOf(3)
	c := New(d, 3)
	mustGet(t, c, 1, row(1))
	mustPut(t, c, 1, row(7), true)
	mustFlush(t, c, 1, true)
	mustLie(t, d, 1, row(7))
	mustHaveWritten(t, d, 2)
	mustFlush(t, c, 1, true)
	mustHaveWritten(t, d, 2)
	mustPut(t, c, 1, row(8), true)
	mustRelease(t, c, 1, true)
	mustFlush(t, c, 1, true)
	mustLie(t, d, 1, row(8))
	mustHaveWritten(t, d, 4)
	mustLie(t, d, 0, row(0))
	mustLie(t, d, 2, row(2))
}

func TestPutOfTheSameBytesMakesDirty(t *testing.T) {
	d := diskOf(1)
	c := New(d, 1)
	mustGet(t, c, 0, row(0))
	mustPut(t, c, 0, row(0), true)
	mustFlush(t, c, 0, true)
	mustHaveWritten(t, d, 2)
}

func TestFlushLeavesThePins(t *testing.T) {
	c := New(diskOf(2), 1)
	mustGet(t, c, 1, row(1))
	mustPut(t, c, 1, row(7), true)
	mustFlush(t, c, 1, true)
	mustPut(t, c, 1, row(8), true)
	mustRelease(t, c, 1, true)
	mustRelease(t, c, 1, false)
}

func TestFlushOfWhatIsNotDirty(t *testing.T) {
	d := diskOf(2)
	c := New(d, 2)
	mustGet(t, c, 1, row(1))
	d.Cut(0)
	d.Write(0, row(9))
	for _, n := range []int{0, 1, 2, -1, math.MinInt, math.MaxInt} {
		mustFlush(t, c, n, true)
	}
	mustHaveWritten(t, d, 0)
	mustHold(t, c, 1)
	mustHaveRead(t, c, 1)
}

func TestFlushWithoutPowerLeavesItDirty(t *testing.T) {
	d := diskOf(3)
	c := New(d, 1)
	soil(t, c, row(7), 1)
	for sectors := range 2 {
		d.Cut(sectors)
		mustFlush(t, c, 1, false)
		mustFlush(t, c, 1, false)
		mustHold(t, c, 1)
		mustGet(t, c, 1, row(7))
		mustRelease(t, c, 1, true)
		d.Start()
	}
	mustFlush(t, c, 1, true)
	mustLie(t, d, 1, row(7))
	mustHaveWritten(t, d, 3)
}

// P1202

func TestExample(t *testing.T) {
	c := New(diskOf(3), 1)
	mustGet(t, c, 1, row(1))
	mustRelease(t, c, 1, true)
	mustHold(t, c, 1)
	mustGet(t, c, 2, row(2))
	mustHold(t, c, 2)
}

func TestSizeIsOneAtLeast(t *testing.T) {
	for _, size := range []int{1, 0, -1, math.MinInt} {
		c := New(diskOf(4), size)
		use(t, c, 2)
		mustHold(t, c, 2)
		use(t, c, 0, 3)
		mustHold(t, c, 3)
		mustHaveRead(t, c, 3)
	}
}

func TestAGreatSizeKeepsAll(t *testing.T) {
	for _, size := range []int{4, 5, math.MaxInt} {
		c := New(diskOf(4), size)
		use(t, c, 3, 1, 0, 2)
		mustHold(t, c, 3, 1, 0, 2)
		use(t, c, 0, 1, 2, 3)
		mustHold(t, c, 0, 1, 2, 3)
		mustHaveRead(t, c, 4)
	}
}

func TestTheOneGotTheLongestAgoGoes(t *testing.T) {
	c := New(diskOf(9), 3)
	use(t, c, 0, 1, 2)
	mustHold(t, c, 0, 1, 2)
	use(t, c, 0)
	mustHold(t, c, 1, 2, 0)
	use(t, c, 3)
	mustHold(t, c, 2, 0, 3)
	use(t, c, 0, 4)
	mustHold(t, c, 3, 0, 4)
	use(t, c, 4, 5, 6, 7)
	mustHold(t, c, 5, 6, 7)
}

func TestOnlyGetTurnsTheOrder(t *testing.T) {
	d := diskOf(4)
	c := New(d, 3)
	mustGet(t, c, 0, row(0))
	mustGet(t, c, 1, row(1))
	mustGet(t, c, 2, row(2))
	mustPut(t, c, 0, row(9), true)
	mustRelease(t, c, 2, true)
	mustRelease(t, c, 0, true)
	mustFlush(t, c, 0, true)
	mustRelease(t, c, 1, true)
	mustNotGet(t, c, 4)
	mustHold(t, c, 0, 1, 2)
	use(t, c, 3)
	mustHold(t, c, 1, 2, 3)
}

func TestPinnedBlocksStay(t *testing.T) {
	c := New(diskOf(6), 2)
	for n := range 4 {
		mustGet(t, c, n, row(byte(n)))
	}
	mustGet(t, c, 0, row(0))
	mustHold(t, c, 1, 2, 3, 0)
	mustRelease(t, c, 0, true)
	mustHold(t, c, 1, 2, 3, 0)
	mustRelease(t, c, 2, true)
	mustHold(t, c, 1, 3, 0)
	mustRelease(t, c, 0, true)
	mustHold(t, c, 1, 3)
	mustRelease(t, c, 1, true)
	mustRelease(t, c, 3, true)
	mustHold(t, c, 1, 3)
}

func TestPinnedBlocksCountForTheSize(t *testing.T) {
	c := New(diskOf(6), 2)
	mustGet(t, c, 0, row(0))
	use(t, c, 1)
	mustHold(t, c, 0, 1)
	use(t, c, 2)
	mustHold(t, c, 0, 2)
	mustGet(t, c, 3, row(3))
	mustHold(t, c, 0, 3)
	use(t, c, 4)
	mustHold(t, c, 0, 3)
}

func TestDirtyBlocksStay(t *testing.T) {
	d := diskOf(6)
	c := New(d, 2)
	soil(t, c, row(7), 0, 1, 2, 3)
	mustHold(t, c, 0, 1, 2, 3)
	use(t, c, 4)
	mustHold(t, c, 0, 1, 2, 3)
	mustFlush(t, c, 2, true)
	mustHold(t, c, 0, 1, 3)
	mustFlush(t, c, 0, true)
	mustHold(t, c, 1, 3)
	mustFlush(t, c, 1, true)
	mustHold(t, c, 1, 3)
	use(t, c, 4)
	mustHold(t, c, 3, 4)
	mustGet(t, c, 3, row(7))
	mustHaveWritten(t, d, 6)
}

func TestABlockThatIsPinnedAndDirtyStaysForEither(t *testing.T) {
	c := New(diskOf(6), 1)
	mustGet(t, c, 0, row(0))
	mustPut(t, c, 0, row(7), true)
	mustGet(t, c, 1, row(1))
	mustFlush(t, c, 0, true)
	mustHold(t, c, 0, 1)
	mustPut(t, c, 1, row(8), true)
	mustRelease(t, c, 1, true)
	mustHold(t, c, 0, 1)
	mustRelease(t, c, 0, true)
	mustHold(t, c, 1)
	mustFlush(t, c, 1, true)
	mustHold(t, c, 1)
}

func TestAGetInVainLetsNothingGo(t *testing.T) {
	c := New(diskOf(3), 2)
	use(t, c, 0, 1)
	mustNotGet(t, c, 3)
	mustNotGet(t, c, -1)
	mustHold(t, c, 0, 1)
	mustHaveRead(t, c, 4)
}

func TestReadsCountsReadsOfTheDisk(t *testing.T) {
	d := diskOf(3)
	c := New(d, 1)
	mustHaveRead(t, c, 0)
	mustRelease(t, c, 0, false)
	mustPut(t, c, 0, row(1), false)
	mustFlush(t, c, 0, true)
	mustHaveRead(t, c, 0)
	use(t, c, 0, 0, 0)
	mustHaveRead(t, c, 1)
	use(t, c, 1, 0)
	mustHaveRead(t, c, 3)
	mustNotGet(t, c, 3)
	mustNotGet(t, c, 3)
	mustHaveRead(t, c, 5)
	d.Cut(0)
	d.Write(0, row(9))
	mustNotGet(t, c, 1)
	mustHaveRead(t, c, 6)
	mustGet(t, c, 0, row(0))
	mustHaveRead(t, c, 6)
}

func TestAFullDiskOfPinnedBlocks(t *testing.T) {
	const blocks = 20000
	c := New(disk.New(blocks), 1)
	for n := range blocks {
		c.Get(n)
	}
	if len(c.Held()) != blocks || c.Reads() != blocks {
		t.Errorf("%d are held, %d were read", len(c.Held()), c.Reads())
	}
	for n := range blocks {
		mustRelease(t, c, blocks-1-n, true)
	}
	mustHold(t, c, 0)
}

// P1203

func TestWithoutADiskNothingIsThere(t *testing.T) {
	for _, c := range []*Cache{New(nil, 2), New(nil, 0), New(nil, math.MinInt), {}} {
		for _, n := range []int{0, 1, -1, math.MinInt, math.MaxInt} {
			mustNotGet(t, c, n)
			mustPut(t, c, n, row(1), false)
			mustPut(t, c, n, nil, false)
			mustRelease(t, c, n, false)
			mustFlush(t, c, n, true)
		}
		mustHold(t, c)
		mustHaveRead(t, c, 0)
	}
}

func TestWhatIsHandedInIsNotKept(t *testing.T) {
	d := diskOf(2)
	c := New(d, 1)
	roomy := append(row(7), row(8)...)
	want := bytes.Clone(roomy)
	mustGet(t, c, 1, row(1))
	mustPut(t, c, 1, roomy[:api.Block], true)
	mustFlush(t, c, 1, true)
	mustPut(t, c, 1, roomy[:api.Block], true)
	if !bytes.Equal(roomy, want) {
		t.Error("an argument, or its spare room, has changed")
	}
	clear(roomy)
	mustGet(t, c, 1, row(7))
	mustFlush(t, c, 1, true)
	mustLie(t, d, 1, row(7))
}

func TestWhatIsAnsweredIsNewMemory(t *testing.T) {
	c := New(diskOf(3), 3)
	read, _ := c.Get(1)
	clear(read[:cap(read)])
	kept, _ := c.Get(1)
	if !bytes.Equal(kept, row(1)) {
		t.Error("what was read is what was answered")
	}
	clear(kept[:cap(kept)])
	mustGet(t, c, 1, row(1))
	mustPut(t, c, 1, row(7), true)
	put, _ := c.Get(1)
	mustPut(t, c, 1, row(8), true)
	if !bytes.Equal(put, row(7)) {
		t.Error("an answer changes by a later Put")
	}
	clear(put[:cap(put)])
	mustGet(t, c, 1, row(8))
	use(t, c, 0)
	l := c.Held()
	clear(l[:cap(l)])
	mustHold(t, c, 1, 0)
}

func TestTwoCachesHaveNothingInCommon(t *testing.T) {
	d := diskOf(2)
	a, b := New(d, 1), New(d, 2)
	mustGet(t, a, 0, row(0))
	mustPut(t, a, 0, row(7), true)
	mustHold(t, b)
	mustRelease(t, b, 0, false)
	mustGet(t, b, 0, row(0))
	mustFlush(t, b, 0, true)
	mustHaveWritten(t, d, 0)
	mustFlush(t, a, 0, true)
	mustGet(t, b, 0, row(0))
	mustHaveRead(t, a, 1)
	mustHaveRead(t, b, 1)
}

// model is the chapter's words, a block an element of one plain list in the order of use.
type model struct {
	d           *disk.Disk
	size, reads int
	kept        []page
}

type page struct {
	number, pins int
	dirty        bool
	data         []byte
}

func (m *model) at(block int) int {
	return slices.IndexFunc(m.kept, func(p page) bool { return p.number == block })
}

func (m *model) shrink() {
	for len(m.kept) > max(m.size, 1) {
		i := slices.IndexFunc(m.kept, func(p page) bool { return p.pins == 0 && !p.dirty })
		if i < 0 {
			return
		}
		m.kept = slices.Delete(m.kept, i, i+1)
	}
}

func (m *model) get(block int) ([]byte, bool) {
	defer m.shrink()
	p := page{number: block}
	if i := m.at(block); i >= 0 {
		p = m.kept[i]
		m.kept = slices.Delete(m.kept, i, i+1)
	} else {
		m.reads++
		data, ok := m.d.Read(block)
		if !ok {
			return nil, false
		}
		p.data = data
	}
	p.pins++
	m.kept = append(m.kept, p)
	return p.data, true
}

func (m *model) put(block int, b []byte) bool {
	i := m.at(block)
	if i < 0 || m.kept[i].pins == 0 || len(b) != 1024 {
		return false
	}
	m.kept[i].data, m.kept[i].dirty = bytes.Clone(b), true
	return true
}

func (m *model) release(block int) bool {
	defer m.shrink()
	i := m.at(block)
	if i < 0 || m.kept[i].pins == 0 {
		return false
	}
	m.kept[i].pins--
	return true
}

func (m *model) flush(block int) bool {
	defer m.shrink()
	i := m.at(block)
	if i < 0 || !m.kept[i].dirty {
		return true
	}
	if !m.d.Write(block, m.kept[i].data) {
		return false
	}
	m.kept[i].dirty = false
	return true
}

func (m *model) held() []int {
	var l []int
	for _, p := range m.kept {
		l = append(l, p.number)
	}
	return l
}

// step does one call on both, and tells whether they answer alike.
func step(r *rand.Rand, c *Cache, m *model, d *disk.Disk, blocks int) bool {
	n := r.Intn(blocks+2) - 1
	switch k := r.Intn(20); {
	case k < 6:
		got, ok := c.Get(n)
		want, wantOK := m.get(n)
		return ok == wantOK && bytes.Equal(got, want)
	case k < 13:
		return c.Release(n) == m.release(n)
	case k < 15:
		b := row(byte(r.Intn(256)))[:api.Block-r.Intn(8)/7]
		return c.Put(n, b) == m.put(n, b)
	case k < 18:
		return c.Flush(n) == m.flush(n)
	case k < 19:
		sectors := r.Intn(6) - 1
		d.Cut(sectors)
		m.d.Cut(sectors)
	default:
		d.Start()
		m.d.Start()
	}
	return true
}

func TestDrawnCallsAgainstTheModel(t *testing.T) {
	for seed := range 60 {
		r := rand.New(rand.NewSource(int64(seed)))
		blocks := 1 + r.Intn(10)
		size := r.Intn(blocks+2) - 1
		d := diskOf(blocks)
		c, m := New(d, size), &model{d: diskOf(blocks), size: size}
		for i := range 1000 {
			if !step(r, c, m, d, blocks) {
				t.Fatalf("seed %d, step %d: another answer", seed, i)
			}
			if held := c.Held(); !slices.Equal(held, m.held()) || c.Reads() != m.reads {
				t.Fatalf("seed %d, step %d: Held %v, want %v; Reads %d, want %d", seed, i, held, m.held(), c.Reads(), m.reads)
			}
			if len(d.Log()) != len(m.d.Log()) || d.Dead() != m.d.Dead() {
				t.Fatalf("seed %d, step %d: the disk was written otherwise", seed, i)
			}
		}
		if !bytes.Equal(d.Image(), m.d.Image()) {
			t.Fatalf("seed %d: another image", seed)
		}
	}
}
