package fs

import (
	"bytes"
	"math/rand"
	"slices"
	"strings"
	"testing"

	"lockgate/api"
	"lockgate/calls"
	"lockgate/dinode"
	"lockgate/disk"
	"lockgate/entry"
	"lockgate/fsck"
	"lockgate/geom"
	"lockgate/mkfs"
	"lockgate/reader"
	"lockgate/walk"
)

var (
	tight = api.Geometry{Groups: 2, Inodes: 1, Data: 8}
	small = api.Geometry{Groups: 1, Inodes: 1, Data: 40}
	wide  = api.Geometry{Groups: 2, Inodes: 4, Data: 400}
)

// play does calls, each a line of words, and tells their results' lines.
func (w *watched) play(lines ...string) string {
	w.t.Helper()
	var out []string
	for _, s := range lines {
		c, err := calls.Read(s)
		if err != api.OK {
			w.t.Fatalf("no call: %q", s)
		}
		out = append(out, calls.Show(c.Kind, w.do(c)))
	}
	return strings.Join(out, "; ")
}

// must does calls that must all be taken.
func (w *watched) must(lines ...string) {
	w.t.Helper()
	for _, s := range lines {
		if got := w.play(s); strings.HasPrefix(got, "error") {
			w.t.Fatalf("%s: %s", s, got)
		}
	}
}

// P2101

func TestMount(t *testing.T) {
	image, _ := mkfs.Image(small)
	dirty, turned := bytes.Clone(image), bytes.Clone(image)
	dirty[2*1024+2]++
	turned[3]++
	dead := disk.Of(image)
	dead.Cut(0)
	dead.Write(0, image[:1024])
	for _, x := range []struct {
		d    *disk.Disk
		want api.Errno
	}{
		{nil, api.ErrPower},
		{dead, api.ErrPower},
		{disk.New(0), api.ErrSuper},
		{disk.New(42), api.ErrSuper},
		{disk.Of(turned), api.ErrSuper},
		{disk.Of(image[:len(image)-1024]), api.ErrSuper},
		{disk.Of(dirty), api.ErrByte},
	} {
		if f, err := Mount(x.d); f != nil || err != x.want {
			t.Errorf("%v, %d, not %d", f, err, x.want)
		}
	}
	d := disk.Of(image)
	f, err := Mount(d)
	if err != api.OK || f.Left() != 0 || f.Step() || len(d.Log()) != 0 {
		t.Errorf("%d", err)
	}
	if want, _ := reader.Nodes(image); !walk.Same(f.Nodes(), want) {
		t.Error("not the disk's tree")
	}
}

// TestMountAgain: the tree that lies on a disk goes on from there, all of it.
func TestMountAgain(t *testing.T) {
	w := watch(t, small)
	w.must("mkdir /a", "create /a/f", "write /a/f 500 010203", "write /a/f 9000 04", "link /a/f /g", "create /h", "unlink /h", "mkdir /a/b", "sync")
	f, err := Mount(w.d)
	if err != api.OK {
		t.Fatal(err)
	}
	w.f = f
	w.add()
	inodes, blocks := w.tree.Used()
	if i, b := f.tree.Used(); i != inodes || b != blocks {
		t.Errorf("%d, %d used, not %d, %d", i, b, inodes, blocks)
	}
	w.must("create /h", "write /g 8190 05060708", "rename /a/b /b", "unlink /a/f", "rmdir /a", "stat /g", "read /g 0 8000", "read /g 8000 1000", "list /", "sync")
}

// P2102

func TestResultsAreTheTrees(t *testing.T) {
	w := watch(t, small)
	w.must("mkdir /a", "create /a/f", "write /a/f 0 6869", "read /a/f 0 9", "stat /a/f", "list /a", "fsync /a/f", "trunc /a/f 1", "rename /a /b", "sync")
	for line, want := range map[string]string{
		"create /b": "error 11", "mkdir /b/f/c": "error 12", "link /b /c": "error 13", "unlink /none": "error 10", "rmdir /b": "error 14",
		"rename /b /b/c": "error 19", "read /b/f -1 1": "error 1", "write /b/f 67379200 00": "error 17", "trunc /b 0": "error 13",
		"stat x": "error 15", "list /b/f": "error 12", "fsync /c": "error 10", "rmdir /": "error 18",
	} {
		if got := w.play(line); got != want {
			t.Errorf("%s: %s, not %s", line, got, want)
		}
	}
	if w.f.Left() != 0 {
		t.Error("what is refused has changed something")
	}
	if r := w.f.Do(api.Call{Kind: 14}); !same(r, api.Result{Err: api.ErrArg}) {
		t.Errorf("%+v", r)
	}
}

// TestTheGreatestSize: behind it there is no block of which anything might stay.
func TestTheGreatestSize(t *testing.T) {
	w := watch(t, small)
	w.must("create /f", "write /f 0 0102", "write /f 67379192 0304050607080900", "trunc /f 67379200", "trunc /f 67379195", "trunc /f 67379200", "sync")
	if got := w.play("read /f 0 3", "read /f 67379192 9", "write /f 67379200 -", "write /f 67379199 0101", "stat /f"); got != "data 010200; data 0304050000000000; wrote 0; error 17; file 67379200 1" {
		t.Error(got)
	}
}

func TestInodes(t *testing.T) {
	w := watch(t, tight)
	w.must("mkdir /a", "create /a/f", "link /a/f /g")
	for s, want := range map[string]int{"/": 1, "/a": 2, "/a/f": 3, "/g": 3} {
		if ino, err := w.f.Ino(s); ino != want || err != api.OK {
			t.Errorf("%s: %d, %d", s, ino, err)
		}
	}
	for s, want := range map[string]api.Errno{"a": api.ErrName, "/b": api.ErrNone, "/g/b": api.ErrNotDir, "": api.ErrName} {
		if ino, err := w.f.Ino(s); ino != 0 || err != want {
			t.Errorf("%s: %d, %d", s, ino, err)
		}
	}
}

// TestWhatIsHandedInIsNotKept, nor what is answered.
func TestWhatIsHandedInIsNotKept(t *testing.T) {
	w := watch(t, small)
	w.must("create /f")
	data := []byte("abc")
	w.do(api.Call{Kind: api.CWrite, Path: "/f", Data: data})
	clear(data)
	clear(w.f.Do(api.Call{Kind: api.CRead, Path: "/f", N: 3}).Data)
	clear(w.f.Nodes()[1].Blocks[0].Data)
	if got := w.play("read /f 0 9", "sync"); got != "data 616263; ok" {
		t.Error(got)
	}
}

// P2103

func TestStepsLessenWhatIsLeft(t *testing.T) {
	w := watch(t, small)
	w.must("mkdir /a", "create /a/f", "write /a/f 1000 "+strings.Repeat("07", 3000), "rename /a/f /f", "rmdir /a")
	for left := w.f.Left(); left > 0; {
		writes := len(w.d.Log())
		if !w.f.Step() || w.f.Left() >= left || len(w.d.Log()) != writes+2 {
			t.Fatalf("left %d, then %d", left, w.f.Left())
		}
		left = w.f.Left()
		w.moments()
	}
	w.synced()
}

// TestOfOneBlock: changes that are side by side in a block, the first sector's ahead of the second's, come with one write.
func TestOfOneBlock(t *testing.T) {
	w := watch(t, small)
	w.must("create /f", "write /f 0 "+strings.Repeat("01", 700), "sync")
	for _, x := range []struct {
		line   string
		writes int
	}{
		{"write /f 0 02", 1}, {"write /f 1 03", 1}, // the same sector
		{"write /f 600 04", 1},   // the second one behind it
		{"write /f 2 05", 2},     // the first one again
		{"write /f 511 0607", 5}, // both: a hole meanwhile
	} {
		w.must(x.line)
		f := *w.f // nothing of the file system is written yet
		d := disk.Of(w.d.Image())
		f.d, f.row.list = d, slices.Clone(f.row.list)
		for f.Step() {
		}
		if n := len(d.Log()) / 2; n != x.writes {
			t.Errorf("%s: %d writes, not %d", x.line, n, x.writes)
		}
	}
	w.must("sync")
	left := w.f.Left()
	for range 9 {
		w.must("write /f 0 0102", "write /f 0 0304")
	}
	if got := w.f.Left(); got != left+1 {
		t.Errorf("left %d: a sector's bytes count once", got)
	}
}

// P2104, P2107

func TestDrawnCalls(t *testing.T) {
	for seed := range 40 {
		g := []api.Geometry{tight, small, {Groups: 1, Inodes: 1, Data: 16}}[seed%3]
		draw := rand.New(rand.NewSource(int64(seed)))
		w := watch(t, g)
		for range 80 {
			w.do(drawn(draw))
			for range draw.Intn(4) {
				w.f.Step()
				w.moments()
			}
		}
		w.do(api.Call{Kind: api.CSync})
	}
}

// drawn is a call; most of them find their place.
func drawn(draw *rand.Rand) api.Call {
	kinds := []int{1, 1, 2, 2, 3, 4, 4, 5, 6, 6, 6, 7, 8, 8, 8, 8, 9, 9, 10, 11, 12, 13}
	path := func() string {
		s := "/" + string(rune('a'+draw.Intn(3)))
		if draw.Intn(3) > 0 {
			s += "/" + string(rune('a'+draw.Intn(4)))
		}
		return s
	}
	c := api.Call{Kind: kinds[draw.Intn(len(kinds))], Path: path(), To: path()}
	switch c.Kind {
	case api.CRead, api.CWrite:
		c.Off, c.N = draw.Intn(4)*700, draw.Intn(3000)
		if draw.Intn(4) == 0 {
			c.Off += (8 + draw.Intn(3)*256) * 1024
		}
		c.Data = make([]byte, draw.Intn(1500))
		draw.Read(c.Data)
	case api.CTrunc:
		c.N = draw.Intn(3000)
		if draw.Intn(3) == 0 {
			c.N += (8 + draw.Intn(3)*256) * 1024
		}
	}
	return c
}

// TestRenamesInARing: slots are used anew ahead of a sync, and nothing is lost between.
func TestRenamesInARing(t *testing.T) {
	w := watch(t, small)
	w.must("create /a", "create /b", "mkdir /c", "mkdir /d", "write /a 0 01", "write /b 0 02", "mkdir /c/e", "sync")
	w.must("rename /a /t", "rename /b /a", "rename /t /b", "rename /c/e /e", "rename /c /e/c", "rename /d /e/c/d", "rename /e/c/d /d", "rename /e/c /d/c", "rename /e /d/c/e", "mkdir /x", "rename /d/c/e /x", "sync")
	if got := w.play("read /a 0 1", "read /b 0 1", "list /", "list /d"); got != "data 02; data 01; names a b d x; names c" {
		t.Error(got)
	}
}

// TestLongDirectories: slots behind the direct blocks, and room that is all taken.
func TestLongDirectories(t *testing.T) {
	w := watch(t, wide)
	both := func(c api.Call) { // without a look at each moment
		if got, want := w.f.Do(c), w.tree.Do(c); !same(got, want) {
			t.Fatalf("%+v: %+v, not %+v", c, got, want)
		}
	}
	both(api.Call{Kind: api.CMkdir, Path: "/d"})
	both(api.Call{Kind: api.CCreate, Path: "/f"})
	name := func(n int) string {
		return "/d/" + string(rune('a'+n%26)) + string(rune('a'+n/26%26)) + string(rune('a'+n/676))
	}
	for n := range 300 * 32 {
		both(api.Call{Kind: api.CLink, Path: "/f", To: name(n)})
	}
	for n := 100; n < 4000; n += 100 {
		both(api.Call{Kind: api.CUnlink, Path: name(n)})
	}
	both(api.Call{Kind: api.CRename, Path: name(1), To: name(100)})
	both(api.Call{Kind: api.CSync})
	w.add()
	w.synced()
	for n := range 600 { // until there is no room for one block more
		both(api.Call{Kind: api.CWrite, Path: "/f", Off: n * 1024, Data: []byte{byte(n), 1}})
	}
	for n := range 600 { // both sectors of blocks, where nothing is free
		both(api.Call{Kind: api.CWrite, Path: "/f", Off: n*1024 + 500, Data: bytes.Repeat([]byte{byte(n)}, 100)})
	}
	for n := range 300 * 32 {
		both(api.Call{Kind: api.CUnlink, Path: name(n)})
	}
	both(api.Call{Kind: api.CUnlink, Path: "/f"})
	both(api.Call{Kind: api.CRmdir, Path: "/d"})
	both(api.Call{Kind: api.CSync})
	w.add()
	w.synced()
	if inodes, blocks := w.f.room.Free(); inodes != geom.Inodes(wide)-1 || blocks != geom.Blocks(wide)-1 {
		t.Errorf("%d inodes, %d blocks are free", inodes, blocks)
	}
}

// P2105

// TestOfRepaired: indirect blocks that lead to nothing take room, and are taken back with their file.
func TestOfRepaired(t *testing.T) {
	image, _ := mkfs.Image(small)
	put := func(at int, b []byte, err api.Errno) { copy(image[at:], b) }
	b, err := dinode.Pack(api.Inode{Kind: api.File, Links: 1, Size: 600 * 1024, Single: 10, Double: 11})
	put(2*1024+64, b, err)
	b, err = dinode.PackPointers([]int{12, 0, 13})
	put(11*1024, b, err)
	b, err = entry.PackBlock([]api.Entry{{Ino: 1, Name: "."}, {Ino: 1, Name: ".."}, {Ino: 2, Name: "f"}})
	put(3*1024, b, err)
	image, _, _ = fsck.Repair(image)
	for _, lines := range [][]string{
		{"stat /f"},
		{"write /f 8192 01", "write /f 270336 02", "trunc /f 9000"},
		{"unlink /f", "create /f"},
		{"trunc /f 614400"},
		{"trunc /f 700000", "write /f 600000 03", "trunc /f 10"},
	} {
		f, err := Mount(disk.Of(image))
		if err != api.OK {
			t.Fatal(err)
		}
		free := 0
		for n := range 100 {
			c, _ := calls.Read(append(lines, "create /g")[min(n, len(lines))])
			if n > len(lines) {
				c = api.Call{Kind: api.CWrite, Path: "/g", Off: n * 1024, Data: []byte("x")}
			}
			if r := f.Do(c); r.Err == api.ErrSpace {
				free++
			} else if r.Err != api.OK {
				t.Fatalf("%+v: %d", c, r.Err)
			}
		}
		if free == 0 {
			t.Error("more room than there is")
		}
		if r := f.Do(api.Call{Kind: api.CSync}); r.Err != api.OK {
			t.Error(r.Err)
		}
		if nodes, err := reader.Nodes(f.d.Image()); err != api.OK || !walk.Same(nodes, f.Nodes()) {
			t.Errorf("%d", err)
		}
	}
}

// P2106

func TestPower(t *testing.T) {
	for cut := range 40 {
		w := watch(t, small)
		w.must("mkdir /a", "create /a/f", "write /a/f 0 "+strings.Repeat("07", 3000), "sync", "write /a/f 100 "+strings.Repeat("08", 2000), "rename /a/f /g")
		w.d.Cut(cut)
		c := api.Call{Kind: api.CSync}
		if cut%2 > 0 {
			c = api.Call{Kind: api.CFsync, Path: "/g"}
		}
		r := w.f.Do(c)
		w.moments()
		if !w.d.Dead() {
			if r.Err != api.OK || w.f.Left() > 0 {
				t.Errorf("cut at %d: %d", cut, r.Err)
			}
			continue
		}
		if !same(r, api.Result{Err: api.ErrPower}) || w.f.Step() || w.f.Left() == 0 {
			t.Errorf("cut at %d: %+v", cut, r)
		}
		for _, c := range []api.Call{{Kind: api.CCreate, Path: "/h"}, {Kind: api.CStat, Path: "/"}, {Kind: api.CSync}, {Kind: api.CWrite, Path: "/g", Data: []byte("x")}} {
			if r := w.f.Do(c); !same(r, api.Result{Err: api.ErrPower}) {
				t.Errorf("%+v: %+v", c, r)
			}
		}
		w.d.Start()
		w.do(api.Call{Kind: api.CSync})
	}
}
