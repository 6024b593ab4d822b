package fsck

import (
	"bytes"
	"math/rand"
	"slices"
	"testing"

	"lockgate/api"
	"lockgate/disk"
	"lockgate/geom"
)

// hurt is an image of which blocks of each kind are wrong (these, rising), and others are right.
//
// A group has 23 blocks: its head, two of inodes (the second group's begin with inode 33), data blocks from 4 and from 27 on.
func hurt(t testing.TB) (*paper, []int) {
	f := file(1, 11*1024, 8, 9)
	f.Single = 10
	p := empty(t, api.Geometry{Groups: 2, Inodes: 2, Data: 20}).
		entries(4, names(1, 1, to(2, "f"), to(40, "d"), to(3, "gone"))...).
		inode(2, f).table(10, 11, 0, 2).fill(8, 8).fill(9, 9).fill(11, 11).
		inode(40, dir(9, 1024, 30)).entries(30, api.Entry{}, api.Entry{}, to(2, "g"))
	return p, []int{1, 2, 4, 10, 24, 25, 30}
}

// written are the sectors that make of a disk what it must be, in the order in which they are written.
func written(fixed []byte, unlike []int) []api.Write {
	var out []api.Write
	for _, block := range slices.Backward(unlike) {
		for _, sector := range []int{2 * block, 2*block + 1} {
			out = append(out, api.Write{Sector: sector, Data: fixed[sector*512 : (sector+1)*512]})
		}
	}
	return out
}

// runs holds Run of a disk against what it must tell and write.
func runs(t *testing.T, d *disk.Disk, wrote int, ok bool, log []api.Write) {
	t.Helper()
	before := len(d.Log())
	n, is := Run(d)
	if n != wrote || is != ok {
		t.Fatalf("Run: %d, %v, must be %d, %v", n, is, wrote, ok)
	}
	same := func(a, b api.Write) bool { return a.Sector == b.Sector && bytes.Equal(a.Data, b.Data) }
	if l := d.Log()[before:]; !slices.EqualFunc(l, log, same) {
		t.Fatalf("%d sectors were written, or others, must be %d", len(l), len(log))
	}
}

// whole holds a disk for what a repair changes nothing of.
func whole(t *testing.T, d *disk.Disk) {
	t.Helper()
	if _, unlike, ok := Repair(d.Image()); !ok || len(unlike) != 0 {
		t.Fatalf("the disk is not whole: %v, %v", unlike, ok)
	}
}

// P1801

func TestRunWritesTheLastOneFirst(t *testing.T) {
	p, blocks := hurt(t)
	fixed, unlike, _ := Repair(p.image)
	if !slices.Equal(unlike, blocks) {
		t.Fatalf("unlike: %v", unlike)
	}
	d := disk.Of(p.image)
	runs(t, d, len(blocks), true, written(fixed, blocks))
	if !bytes.Equal(d.Image(), fixed) || d.Dead() {
		t.Error("the disk is not what Repair answers")
	}
	runs(t, d, 0, true, nil)
}

func TestRunOfWhatIsWhole(t *testing.T) {
	for _, g := range []api.Geometry{small, {Groups: 1, Inodes: 1, Data: 8}, {Groups: 8, Inodes: 4, Data: 1000}} {
		d := disk.Of(empty(t, g).image)
		runs(t, d, 0, true, nil)
		d.Cut(0) // it meets no Write
		runs(t, d, 0, true, nil)
		if d.Dead() {
			t.Error("the power failed, though nothing was written")
		}
	}
}

func TestRunRefusesWhatIsNotUsable(t *testing.T) {
	p, _ := hurt(t)
	turned := bytes.Clone(p.image)
	turned[8] ^= 1
	for _, image := range [][]byte{nil, p.image[:1023], p.image[:1024], p.image[:len(p.image)-1], p.image[1024:], turned, append(bytes.Clone(p.image), make([]byte, 1024)...)} {
		d := disk.Of(image)
		runs(t, d, 0, false, nil)
		d.Cut(0)
		runs(t, d, 0, false, nil)
		if d.Dead() {
			t.Error("the power failed, though nothing was to be written")
		}
	}
	for _, blocks := range []int{0, 5, 43} {
		runs(t, disk.New(blocks), 0, false, nil)
	}
	runs(t, &disk.Disk{}, 0, false, nil)
	if n, ok := Run(nil); n != 0 || ok {
		t.Errorf("of no disk: %d, %v", n, ok)
	}
	// Bytes behind the last whole block are no disk's.
	fixed, unlike, _ := Repair(p.image)
	runs(t, disk.Of(append(bytes.Clone(p.image), make([]byte, 1023)...)), len(unlike), true, written(fixed, unlike))
}

func TestRunOfADeadDisk(t *testing.T) {
	p, _ := hurt(t)
	for _, image := range [][]byte{p.image, empty(t, small).image, make([]byte, 1024)} {
		d := disk.Of(image)
		d.Cut(0)
		d.Write(0, make([]byte, 1024))
		runs(t, d, 0, false, nil)
		if !d.Dead() || !bytes.Equal(d.Image(), image) {
			t.Error("a dead disk was started, or written")
		}
	}
}

// P1803

// TestRunThatIsCutOff: ahead of each sector, and behind the last one.
func TestRunThatIsCutOff(t *testing.T) {
	p, blocks := hurt(t)
	fixed, _, _ := Repair(p.image)
	sectors := written(fixed, blocks)
	for cut := range sectors {
		d, half := disk.Of(p.image), bytes.Clone(p.image)
		for _, w := range sectors[:cut] {
			copy(half[w.Sector*512:], w.Data)
		}
		d.Cut(cut)
		runs(t, d, 0, false, sectors[:cut])
		if !d.Dead() || !bytes.Equal(d.Image(), half) {
			t.Errorf("cut %d: not dead, or not half written", cut)
		}
		runs(t, d, 0, false, nil)
		d.Start()
		rest, unlike, _ := Repair(half)
		runs(t, d, len(unlike), true, written(rest, unlike))
		whole(t, d)
	}
	for _, cut := range []int{len(sectors), len(sectors) + 1, -1, -1 << 63} {
		d := disk.Of(p.image)
		d.Cut(cut)
		runs(t, d, len(blocks), true, sectors)
		whole(t, d)
	}
}

// TestRunOfAnythingThatIsCutOff: again and again, behind any number of sectors, a later one leaves a disk that is whole.
func TestRunOfAnythingThatIsCutOff(t *testing.T) {
	draw := rand.New(rand.NewSource(4))
	for round := range 1000 {
		p := empty(t, api.Geometry{Groups: 1 + round%3, Inodes: 1 + round%2, Data: 8 + draw.Intn(60)})
		wreck(p, draw, draw.Intn(80))
		d := disk.Of(p.image)
		for range 1 + draw.Intn(4) {
			fixed, unlike, _ := Repair(d.Image())
			sectors := written(fixed, unlike)
			cut := draw.Intn(len(sectors) + 2)
			d.Cut(cut)
			if cut >= len(sectors) {
				runs(t, d, len(unlike), true, sectors)
			} else {
				runs(t, d, 0, false, sectors[:cut])
			}
			d.Start()
		}
		_, unlike, _ := Repair(d.Image())
		if n, ok := Run(d); n != len(unlike) || !ok {
			t.Fatalf("round %d: %d, %v", round, n, ok)
		}
		whole(t, d)
	}
}

// TestRunOfTheGreatestDisk: each block of a format is wrong.
func TestRunOfTheGreatestDisk(t *testing.T) {
	g := api.Geometry{Groups: api.MaxGroups, Inodes: api.MaxIB, Data: api.MaxData}
	p, want := empty(t, g), []int{}
	for block := 1; block < geom.Total(g); block++ {
		if _, ok := geom.DataOf(g, block); !ok || block == 6 { // the first data block has Root's entries
			p.fill(block, 255)
			want = append(want, block)
		}
	}
	d := disk.Of(p.image)
	runs(t, d, len(want), true, written(empty(t, g).image, want))
	if !bytes.Equal(d.Image(), empty(t, g).image) {
		t.Error("the disk is not an empty file system")
	}
}

// TestRunsHaveNothingInCommon: disks of one image are repaired each by itself.
func TestRunsHaveNothingInCommon(t *testing.T) {
	p, blocks := hurt(t)
	given := bytes.Clone(p.image)
	a, b := disk.Of(p.image), disk.Of(p.image)
	if n, ok := Run(a); n != len(blocks) || !ok {
		t.Fatal(n, ok)
	}
	if !bytes.Equal(b.Image(), given) || !bytes.Equal(p.image, given) {
		t.Error("another disk was written")
	}
	b.Write(3, bytes.Repeat([]byte{9}, 1024))
	whole(t, a)
}
