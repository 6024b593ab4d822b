package disk

import (
	"bytes"
	"math"
	"slices"
	"testing"

	"lockgate/api"
)

// block has bytes that differ from place to place, so that a sector at the wrong place shows.
func block(seed byte) []byte {
	b := make([]byte, api.Block)
	for i := range b {
		b[i] = seed + byte(i) + byte(i/api.Sector)*101
	}
	return b
}

func imageOf(seeds ...byte) []byte {
	var image []byte
	for _, s := range seeds {
		image = append(image, block(s)...)
	}
	return image
}

func mustRead(t *testing.T, d *Disk, at int, want []byte) {
	t.Helper()
	if got, ok := d.Read(at); !ok || !bytes.Equal(got, want) {
		t.Errorf("Read(%d): ok %v, %d bytes, not the ones that stand there", at, ok, len(got))
	}
}

func mustNotRead(t *testing.T, d *Disk, at int) {
	t.Helper()
	if got, ok := d.Read(at); ok || got != nil {
		t.Errorf("Read(%d): ok %v, %d bytes, want nil, false", at, ok, len(got))
	}
}

func mustWrite(t *testing.T, d *Disk, at int, b []byte) {
	t.Helper()
	if !d.Write(at, b) {
		t.Errorf("Write(%d) is refused", at)
	}
}

func mustNotWrite(t *testing.T, d *Disk, at int, b []byte) {
	t.Helper()
	if d.Write(at, b) {
		t.Errorf("Write(%d) of %d bytes is taken", at, len(b))
	}
}

func mustBeDead(t *testing.T, d *Disk, want bool) {
	t.Helper()
	if d.Dead() != want {
		t.Errorf("Dead is %v, want %v", d.Dead(), want)
	}
}

func mustImage(t *testing.T, d *Disk, want []byte) {
	t.Helper()
	if !bytes.Equal(d.Image(), want) {
		t.Error("the image is not what was written")
	}
}

func mustLog(t *testing.T, d *Disk, want ...api.Write) {
	t.Helper()
	same := func(a, b api.Write) bool { return a.Sector == b.Sector && bytes.Equal(a.Data, b.Data) }
	if got := d.Log(); !slices.EqualFunc(got, want, same) {
		t.Errorf("the log has %d sectors, or others; want %d", len(got), len(want))
	}
}

func halves(at int, b []byte) []api.Write {
	return []api.Write{{Sector: 2 * at, Data: b[:api.Sector]}, {Sector: 2*at + 1, Data: b[api.Sector:]}}
}

// P101

func TestNewHasBlocksOfZeros(t *testing.T) {
	for _, c := range []struct{ asked, want int }{
		{0, 0}, {1, 1}, {3, 3}, {19999, 19999}, {20000, 20000},
		{20001, 20000}, {math.MaxInt, 20000}, {-1, 0}, {math.MinInt, 0},
	} {
		d := New(c.asked)
		if d.Blocks() != c.want {
			t.Errorf("New(%d) has %d blocks, want %d", c.asked, d.Blocks(), c.want)
		}
		mustImage(t, d, make([]byte, c.want*api.Block))
		mustBeDead(t, d, false)
		mustLog(t, d)
	}
}

func TestOfHasTheWholeBlocksOfAnImage(t *testing.T) {
	three := imageOf(1, 2, 3)
	for _, c := range []struct{ bytes, blocks int }{{0, 0}, {1, 0}, {1023, 0}, {1024, 1}, {1025, 1}, {2047, 1}, {2048, 2}, {3072, 3}} {
		d := Of(three[:c.bytes])
		if d.Blocks() != c.blocks {
			t.Errorf("Of %d bytes has %d blocks, want %d", c.bytes, d.Blocks(), c.blocks)
		}
		mustImage(t, d, three[:c.blocks*api.Block])
		mustBeDead(t, d, false)
		mustLog(t, d)
	}
	if Of(nil).Blocks() != 0 {
		t.Error("Of(nil) has blocks")
	}
}

func TestOfLeavesBlocksBehindTheLastOneOut(t *testing.T) {
	image := make([]byte, 20002*api.Block+5)
	copy(image[19999*api.Block:], block(4))
	copy(image[20000*api.Block:], block(5))
	d := Of(image)
	if d.Blocks() != 20000 {
		t.Errorf("%d blocks, want 20000", d.Blocks())
	}
	mustRead(t, d, 19999, block(4))
	mustNotRead(t, d, 20000)
	mustImage(t, d, image[:20000*api.Block])
}

func TestReadTellsABlock(t *testing.T) {
	d := Of(imageOf(1, 2, 3))
	for at := range 3 {
		mustRead(t, d, at, block(byte(at+1)))
	}
	mustWrite(t, d, 1, block(9))
	mustRead(t, d, 0, block(1))
	mustRead(t, d, 1, block(9))
	mustRead(t, d, 2, block(3))
}

func TestReadOfNoSuchBlock(t *testing.T) {
	d := Of(imageOf(1, 2, 3))
	for _, at := range []int{-1, 3, 4, math.MinInt, math.MaxInt, math.MaxInt/api.Block + 1} {
		mustNotRead(t, d, at)
	}
	mustNotRead(t, New(0), 0)
}

func TestReadOfADeadDisk(t *testing.T) {
	d := Of(imageOf(1, 2))
	d.Cut(0)
	mustRead(t, d, 0, block(1))
	mustNotWrite(t, d, 0, block(7))
	mustNotRead(t, d, 0)
	mustNotRead(t, d, 1)
	mustNotRead(t, d, 2)
	d.Start()
	mustRead(t, d, 0, block(1))
}

func TestReadSpendsNoSectors(t *testing.T) {
	d := New(1)
	d.Cut(2)
	for range 5 {
		mustRead(t, d, 0, make([]byte, api.Block))
	}
	mustWrite(t, d, 0, block(1))
	mustNotWrite(t, d, 0, block(2))
}

// P102

func TestWriteOfTwoSectors(t *testing.T) {
	d := New(3)
	mustWrite(t, d, 2, block(5))
	mustWrite(t, d, 0, block(6))
	mustImage(t, d, slices.Concat(block(6), make([]byte, api.Block), block(5)))
	mustLog(t, d, slices.Concat(halves(2, block(5)), halves(0, block(6)))...)
}

func TestWriteRefused(t *testing.T) {
	d := Of(imageOf(1, 2))
	for _, at := range []int{-1, 2, 3, math.MinInt, math.MaxInt, math.MaxInt/api.Block + 1} {
		mustNotWrite(t, d, at, block(9))
	}
	long := append(block(9), 1)
	for _, b := range [][]byte{nil, {}, {1}, long[:512], long[:1023], long, make([]byte, 2048)} {
		mustNotWrite(t, d, 0, b)
	}
	mustNotWrite(t, New(0), 0, block(9))
	mustImage(t, d, imageOf(1, 2))
	mustLog(t, d)
	mustBeDead(t, d, false)
}

func TestRefusedWriteDoesNotMeetACut(t *testing.T) {
	d := New(2)
	d.Cut(0)
	mustNotWrite(t, d, 2, block(1))
	mustNotWrite(t, d, -1, block(1))
	mustNotWrite(t, d, 0, block(1)[1:])
	mustBeDead(t, d, false)
	d.Cut(2)
	mustNotWrite(t, d, 2, block(1))
	mustNotWrite(t, d, 0, nil)
	mustWrite(t, d, 0, block(1))
	mustBeDead(t, d, false)
}

func TestCutAheadOfEachSector(t *testing.T) {
	blocks := [][]byte{block(11), block(22), block(33)}
	var all []api.Write
	for at, b := range blocks {
		all = append(all, halves(at, b)...)
	}
	for sectors := range 6 {
		d := Of(imageOf(1, 2, 3))
		d.Cut(sectors)
		for at, b := range blocks {
			if want := sectors >= 2*(at+1); d.Write(at, b) != want {
				t.Errorf("Cut(%d): Write(%d) is not %v", sectors, at, want)
			}
			mustBeDead(t, d, sectors < 2*(at+1))
		}
		whole := slices.Concat(blocks...)
		mustImage(t, d, append(whole[:sectors*api.Sector], imageOf(1, 2, 3)[sectors*api.Sector:]...))
		mustLog(t, d, all[:sectors]...)
	}
}

func TestCutFailsOnlyAtAWrite(t *testing.T) {
	d := New(1)
	d.Cut(0)
	mustBeDead(t, d, false)
	mustRead(t, d, 0, make([]byte, api.Block))
	mustNotWrite(t, d, 0, block(1))
	mustBeDead(t, d, true)
	mustImage(t, d, make([]byte, api.Block))
	mustLog(t, d)
}

func TestCutBelowZeroIsNever(t *testing.T) {
	for _, never := range []int{-1, -7, math.MinInt} {
		d := New(1)
		d.Cut(1)
		d.Cut(never)
		for i := range 50 {
			mustWrite(t, d, 0, block(byte(i)))
		}
		mustBeDead(t, d, false)
	}
	d := New(1)
	d.Cut(math.MaxInt)
	for range 50 {
		mustWrite(t, d, 0, block(1))
	}
}

func TestLaterCutTakesThePlaceOfTheOneAheadOfIt(t *testing.T) {
	d := New(1)
	d.Cut(2)
	mustWrite(t, d, 0, block(1))
	d.Cut(4)
	mustWrite(t, d, 0, block(2))
	d.Cut(1)
	mustNotWrite(t, d, 0, block(3))
	mustImage(t, d, append(block(3)[:api.Sector], block(2)[api.Sector:]...))
}

func TestDeadStaysDeadUntilStart(t *testing.T) {
	d := New(1)
	d.Cut(0)
	mustNotWrite(t, d, 0, block(1))
	for _, sectors := range []int{-1, 0, 9} {
		d.Cut(sectors)
		mustBeDead(t, d, true)
		mustNotWrite(t, d, 0, block(1))
		mustNotRead(t, d, 0)
	}
	mustImage(t, d, make([]byte, api.Block))
	mustLog(t, d)
	d.Start()
	mustBeDead(t, d, false)
	mustWrite(t, d, 0, block(1))
}

func TestStartTakesACutBack(t *testing.T) {
	d := New(1)
	d.Cut(1)
	d.Start()
	mustWrite(t, d, 0, block(1))
	mustWrite(t, d, 0, block(2))
	d.Cut(0)
	mustNotWrite(t, d, 0, block(3))
	d.Cut(3)
	d.Start()
	for range 10 {
		mustWrite(t, d, 0, block(4))
	}
	d.Start()
	mustBeDead(t, d, false)
	mustRead(t, d, 0, block(4))
}

func TestWhatWasWrittenStaysBehindACut(t *testing.T) {
	d := New(2)
	mustWrite(t, d, 0, block(1))
	d.Cut(1)
	mustNotWrite(t, d, 1, block(2))
	torn := append(block(2)[:api.Sector:api.Sector], make([]byte, api.Sector)...)
	mustImage(t, d, append(block(1), torn...))
	d.Start()
	mustRead(t, d, 0, block(1))
	mustRead(t, d, 1, torn)
}

// P103

func TestLogHasAllSectorsInOrder(t *testing.T) {
	d := New(3)
	mustWrite(t, d, 2, block(1))
	mustWrite(t, d, 2, block(1))
	mustNotWrite(t, d, 3, block(2))
	d.Cut(1)
	mustNotWrite(t, d, 0, block(3))
	d.Start()
	mustWrite(t, d, 1, block(4))
	mustLog(t, d, slices.Concat(halves(2, block(1)), halves(2, block(1)), halves(0, block(3))[:1], halves(1, block(4)))...)
}

func TestLogMakesTheImage(t *testing.T) {
	before := imageOf(1, 2, 3, 4)
	d := Of(before)
	for i := range 20 {
		mustWrite(t, d, i*7%4, block(byte(40+i)))
	}
	d.Cut(1)
	mustNotWrite(t, d, 1, block(99))
	for _, w := range d.Log() {
		copy(before[w.Sector*api.Sector:], w.Data)
	}
	mustImage(t, d, before)
}

func TestWhatIsHandedInIsNotKept(t *testing.T) {
	image := imageOf(1, 2)
	d := Of(image)
	clear(image)
	mustImage(t, d, imageOf(1, 2))
	b := block(3)
	mustWrite(t, d, 0, b)
	clear(b)
	mustRead(t, d, 0, block(3))
	mustLog(t, d, halves(0, block(3))...)
}

func TestWhatIsHandedInIsNotChanged(t *testing.T) {
	roomy := slices.Concat(imageOf(1, 2), block(77))
	want := bytes.Clone(roomy)
	d := Of(roomy[:2*api.Block])
	mustWrite(t, d, 1, roomy[:api.Block])
	mustWrite(t, d, 0, block(8))
	mustWrite(t, d, 1, block(9))
	if !bytes.Equal(roomy, want) {
		t.Error("an argument, or its spare room, has changed")
	}
}

func TestWhatIsAnsweredIsNewMemory(t *testing.T) {
	d := New(2)
	mustWrite(t, d, 0, block(1))
	mustWrite(t, d, 1, block(2))
	got, _ := d.Read(0)
	clear(got[:cap(got)])
	image := d.Image()
	clear(image[:cap(image)])
	log := d.Log()
	clear(log[0].Data[:cap(log[0].Data)])
	if !bytes.Equal(log[1].Data, block(1)[api.Sector:]) {
		t.Error("two lists of one log share memory")
	}
	clear(log[:cap(log)])
	mustRead(t, d, 0, block(1))
	mustImage(t, d, imageOf(1, 2))
	mustLog(t, d, slices.Concat(halves(0, block(1)), halves(1, block(2)))...)
}

func TestAnswersDoNotChangeLater(t *testing.T) {
	d := New(1)
	mustWrite(t, d, 0, block(1))
	got, _ := d.Read(0)
	image, log := d.Image(), d.Log()
	mustWrite(t, d, 0, block(2))
	if !bytes.Equal(got, block(1)) || !bytes.Equal(image, block(1)) || len(log) != 2 || !bytes.Equal(log[0].Data, block(1)[:api.Sector]) {
		t.Error("an answer changes by a later Write")
	}
}

func TestTwoDisksHaveNothingInCommon(t *testing.T) {
	image := imageOf(1, 2)
	a, b := Of(image), Of(image)
	mustWrite(t, a, 0, block(5))
	a.Cut(0)
	mustNotWrite(t, a, 1, block(6))
	mustBeDead(t, a, true)
	mustBeDead(t, b, false)
	mustImage(t, b, image)
	mustLog(t, b)
	mustWrite(t, b, 1, block(7))
	b.Start()
	mustBeDead(t, a, true)
	mustImage(t, a, imageOf(5, 2))
	mustLog(t, a, halves(0, block(5))...)
}

func TestEmptyDisks(t *testing.T) {
	for _, d := range []*Disk{New(0), Of(nil), {}} {
		d.Cut(0)
		mustNotWrite(t, d, 0, block(1))
		mustNotRead(t, d, 0)
		mustBeDead(t, d, false)
		d.Start()
		if d.Blocks() != 0 || len(d.Image()) != 0 || len(d.Log()) != 0 {
			t.Error("a disk of no blocks has something")
		}
	}
}
