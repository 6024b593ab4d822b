package fs

import (
	"bytes"
	"strings"
	"testing"

	"lockgate/api"
	"lockgate/calls"
	"lockgate/dinode"
	"lockgate/disk"
	"lockgate/entry"
	"lockgate/fsck"
	"lockgate/geom"
	"lockgate/mkfs"
	"lockgate/reader"
	"lockgate/walk"
)

var (
	tight = api.Geometry{Groups: 2, Inodes: 1, Data: 8}
	small = api.Geometry{Groups: 1, Inodes: 1, Data: 40}
	wide  = api.Geometry{Groups: 2, Inodes: 4, Data: 400}
)

// P2101

func TestMount(t *testing.T) {
	image, _ := mkfs.Image(small)
	dirty, turned := bytes.Clone(image), bytes.Clone(image)
	dirty[2*1024+2]++
	turned[3]++
	dead := disk.Of(image)
	dead.Cut(0)
	dead.Write(0, image[:1024])
	for _, x := range []struct {
		d    *disk.Disk
		want api.Errno
	}{
		{nil, api.ErrPower},
		{dead, api.ErrPower},
		{disk.New(0), api.ErrSuper},
		{disk.New(42), api.ErrSuper},
		{disk.Of(turned), api.ErrSuper},
		{disk.Of(image[:len(image)-1024]), api.ErrSuper},
		{disk.Of(dirty), api.ErrByte},
	} {
		if f, err := Mount(x.d); f != nil || err != x.want {
			t.Errorf("%v, %d, not %d", f, err, x.want)
		}
	}
	d := disk.Of(image)
	f, err := Mount(d)
	if err != api.OK || f.Left() != 0 || f.Step() || len(d.Log()) != 0 {
		t.Errorf("%d", err)
	}
	if want, _ := reader.Nodes(image); !walk.Same(f.Nodes(), want) {
		t.Error("not the disk's tree")
	}
}

// TestMountAgain: the tree that lies on a disk goes on from there, all of it.
func TestMountAgain(t *testing.T) {
	w := watch(t, small)
	w.must("mkdir /a", "create /a/f", "write /a/f 500 010203", "write /a/f 9000 04", "link /a/f /g", "create /h", "unlink /h", "mkdir /a/b", "sync")
	f, err := Mount(w.d)
	if err != api.OK {
		t.Fatal(err)
	}
	w.f = f
	w.begin()
	inodes, blocks := w.tree.Used()
	if i, b := f.tree.Used(); i != inodes || b != blocks {
		t.Errorf("%d, %d used, not %d, %d", i, b, inodes, blocks)
	}
	w.must("create /h", "write /g 8190 05060708", "rename /a/b /b", "unlink /a/f", "rmdir /a", "stat /g", "read /g 0 8000", "read /g 8000 1000", "list /", "sync")
}

// P2102

func TestResultsAreTheTrees(t *testing.T) {
	w := watch(t, small)
	w.must("mkdir /a", "create /a/f", "write /a/f 0 6869", "read /a/f 0 9", "stat /a/f", "list /a", "fsync /a/f", "trunc /a/f 1", "rename /a /b", "sync")
	for line, want := range map[string]string{
		"create /b": "error 11", "mkdir /b/f/c": "error 12", "link /b /c": "error 13", "unlink /none": "error 10", "rmdir /b": "error 14",
		"rename /b /b/c": "error 19", "read /b/f -1 1": "error 1", "write /b/f 67379200 00": "error 17", "trunc /b 0": "error 13",
		"stat x": "error 15", "list /b/f": "error 12", "fsync /c": "error 10", "rmdir /": "error 18",
	} {
		if got := w.play(line); got != want {
			t.Errorf("%s: %s, not %s", line, got, want)
		}
	}
	if w.f.Left() != 0 {
		t.Error("what is refused has changed something")
	}
	if r := w.f.Do(api.Call{Kind: 14}); !same(r, api.Result{Err: api.ErrArg}) {
		t.Errorf("%+v", r)
	}
}

// TestTheGreatestSize: behind it there is no block of which anything might stay.
func TestTheGreatestSize(t *testing.T) {
	w := watch(t, small)
	w.must("create /f", "write /f 0 0102", "write /f 67379192 0304050607080900", "trunc /f 67379200", "trunc /f 67379195", "trunc /f 67379200", "sync")
	if got := w.play("read /f 0 3", "read /f 67379192 9", "write /f 67379200 -", "write /f 67379199 0101", "stat /f"); got != "data 010200; data 0304050000000000; wrote 0; error 17; file 67379200 1" {
		t.Error(got)
	}
}

func TestInodes(t *testing.T) {
	w := watch(t, tight)
	w.must("mkdir /a", "create /a/f", "link /a/f /g")
	for s, want := range map[string]int{"/": 1, "/a": 2, "/a/f": 3, "/g": 3} {
		if ino, err := w.f.Ino(s); ino != want || err != api.OK {
			t.Errorf("%s: %d, %d", s, ino, err)
		}
	}
	for s, want := range map[string]api.Errno{"a": api.ErrName, "/b": api.ErrNone, "/g/b": api.ErrNotDir, "": api.ErrName} {
		if ino, err := w.f.Ino(s); ino != 0 || err != want {
			t.Errorf("%s: %d, %d", s, ino, err)
		}
	}
}

// TestWhatIsHandedInIsNotKept, nor what is answered.
func TestWhatIsHandedInIsNotKept(t *testing.T) {
	w := watch(t, small)
	w.must("create /f")
	data := []byte("abc")
	w.do(api.Call{Kind: api.CWrite, Path: "/f", Data: data})
	clear(data)
	clear(w.f.Do(api.Call{Kind: api.CRead, Path: "/f", N: 3}).Data)
	clear(w.f.Nodes()[1].Blocks[0].Data)
	if got := w.play("read /f 0 9", "sync"); got != "data 616263; ok" {
		t.Error(got)
	}
}

// P2103

func TestStepsLessenWhatIsLeft(t *testing.T) {
	w := watch(t, small)
	w.must("mkdir /a", "create /a/f", "write /a/f 1000 "+strings.Repeat("07", 3000), "rename /a/f /f", "rmdir /a")
	for left := w.f.Left(); left > 0; {
		writes := len(w.d.Log())
		if !w.f.Step() || w.f.Left() >= left || len(w.d.Log()) != writes+2 {
			t.Fatalf("left %d, then %d", left, w.f.Left())
		}
		left = w.f.Left()
		w.moments()
	}
	w.synced()
}

// TestWritesAreFew: what does not hang on each other comes together, and what is changed again and again comes once.
func TestWritesAreFew(t *testing.T) {
	w := watch(t, api.Geometry{Groups: 1, Inodes: 4, Data: 40})
	for _, x := range []struct {
		lines  []string
		writes int
	}{
		{[]string{"create /f"}, 3},                                 // the head, the inode, the name
		{[]string{"create /g", "create /h", "create /i"}, 3},       // likewise
		{[]string{"write /f 0 0102"}, 3},                           // the head, the block, the inode
		{[]string{"write /f 0 03", "write /f 1 04"}, 1},            // in place
		{[]string{"write /f 600 05", "write /f 700 06"}, 2},        // in place; its size
		{[]string{"write /f 511 0708", "write /f 0 0908"}, 4},      // a fresh block, its mark; the inode; the old one's mark
		{[]string{"write /g 0 01", "write /g 1024 01"}, 4},         // the head, two blocks, the inode
		{[]string{"unlink /h", "unlink /i"}, 3},                    // the names, the inodes, the head
		{[]string{"link /f /a", "link /g /b"}, 2},                  // the links, the names
		{[]string{"rename /a /c"}, 4},                              // a link more, the new name, the old one, a link less
		{[]string{"trunc /f 0", "trunc /g 0"}, 2},                  // the inodes, the marks
		{[]string{"read /f 0 9", "trunc /f 0", "write /f 0 -"}, 0}, // nothing
	} {
		w.must(x.lines...)
		log := len(w.d.Log())
		w.must("sync")
		if n := (len(w.d.Log()) - log) / 2; n != x.writes {
			t.Errorf("%s: %d writes, not %d", x.lines, n, x.writes)
		}
	}
}

// TestLittleIsKept: of what is on the disk nothing is, though something is left at all times.
func TestLittleIsKept(t *testing.T) {
	w := watch(t, api.Geometry{Groups: 1, Inodes: 4, Data: 40})
	for n := range 1000 {
		s := "/" + string(rune('a'+n%26)) + string(rune('a'+n/26%26)) + string(rune('a'+n/676))
		for _, kind := range []int{api.CCreate, api.CUnlink} {
			if r := w.f.Do(api.Call{Kind: kind, Path: s}); r.Err != api.OK {
				t.Fatal(r.Err)
			}
		}
		for w.f.Left() > 20 {
			w.f.Step()
		}
	}
	if n := len(w.f.freed.changes) + len(w.f.named.changes) + len(w.f.row.list) + len(w.f.row.in) + len(w.f.left); n > 200 {
		t.Errorf("%d things are kept", n)
	}
}

// TestLongDirectories: slots behind the direct blocks, and room that is all taken.
func TestLongDirectories(t *testing.T) {
	w := watch(t, wide)
	both := func(c api.Call) { // without a look at each moment
		if got, want := w.f.Do(c), w.tree.Do(c); !same(got, want) {
			t.Fatalf("%+v: %+v, not %+v", c, got, want)
		}
	}
	both(api.Call{Kind: api.CMkdir, Path: "/d"})
	both(api.Call{Kind: api.CCreate, Path: "/f"})
	name := func(n int) string {
		return "/d/" + string(rune('a'+n%26)) + string(rune('a'+n/26%26)) + string(rune('a'+n/676))
	}
	for n := range 300 * 32 {
		both(api.Call{Kind: api.CLink, Path: "/f", To: name(n)})
	}
	for n := 100; n < 4000; n += 100 {
		both(api.Call{Kind: api.CUnlink, Path: name(n)})
	}
	both(api.Call{Kind: api.CRename, Path: name(1), To: name(100)})
	both(api.Call{Kind: api.CSync})
	w.add()
	w.synced()
	for n := range 600 { // until there is no room for one block more
		both(api.Call{Kind: api.CWrite, Path: "/f", Off: n * 1024, Data: []byte{byte(n), 1}})
	}
	for n := range 600 { // both sectors of blocks, where nothing is free
		both(api.Call{Kind: api.CWrite, Path: "/f", Off: n*1024 + 500, Data: bytes.Repeat([]byte{byte(n)}, 100)})
	}
	for n := range 300 * 32 {
		both(api.Call{Kind: api.CUnlink, Path: name(n)})
	}
	both(api.Call{Kind: api.CUnlink, Path: "/f"})
	both(api.Call{Kind: api.CRmdir, Path: "/d"})
	both(api.Call{Kind: api.CSync})
	w.add()
	w.synced()
	if inodes, blocks := w.f.room.Free(); inodes != geom.Inodes(wide)-1 || blocks != geom.Blocks(wide)-1 {
		t.Errorf("%d inodes, %d blocks are free", inodes, blocks)
	}
}

// P2105

// TestRoom: what was freed is given out anew without a sync; what can't be done for want of room changes nothing.
func TestRoom(t *testing.T) {
	w := watch(t, tight)
	w.must("create /f", "write /f 0 "+strings.Repeat("01", 8192), "write /f 8192 "+strings.Repeat("02", 6000))
	left := w.f.Left()
	if got := w.play("mkdir /d", "write /f 14336 03"); got != "error 16; error 16" || w.f.Left() != left {
		t.Error(got)
	}
	if got := w.play("create /g", "write /g 0 04", "unlink /g"); got != "ok; error 16; ok" {
		t.Error(got)
	}
	w.look("trunc /f 3000", "write /f 8192 "+strings.Repeat("05", 4096), "mkdir /d", "mkdir /d/e", "write /f 4000 06", "rmdir /d/e", "write /f 4000 07")
	if got := w.play("write /f 4096 "+strings.Repeat("08", 4096), "mkdir /e", "mkdir /h", "write /f 0 "+strings.Repeat("09", 4096)); got != "wrote 4096; ok; error 16; wrote 4096" {
		t.Error(got)
	}
	w.each()
	w.must("unlink /f")
	w.fill("create", "", 29)
	if got := w.play("create /more", "mkdir /more", "unlink /aa", "mkdir /more"); got != "error 16; error 16; ok; ok" {
		t.Error(got)
	}
	w.each()
	w.must("sync")
}

// TestRoomInTurn: what is given out anew ahead of a sync is not given out once more behind it.
func TestRoomInTurn(t *testing.T) {
	w := watch(t, api.Geometry{Groups: 1, Inodes: 1, Data: 8})
	w.must("create /f", "write /f 0 01", "create /g", "write /g 0 02", "create /h", "write /h 0 "+strings.Repeat("03", 5000), "sync")
	w.must("trunc /f 0", "write /h 5120 04", "sync", "trunc /g 0", "sync", "write /f 0 05", "sync", "trunc /f 0", "write /g 0 06", "sync")
	w.fill("create", "", 12)
	w.must("unlink /aa", "create /x", "sync", "unlink /ba", "sync", "create /y", "sync")
}

// TestOfRepaired: indirect blocks that lead to nothing take room, and are taken back with their file.
func TestOfRepaired(t *testing.T) {
	image, _ := mkfs.Image(small)
	put := func(at int, b []byte, err api.Errno) { copy(image[at:], b) }
	b, err := dinode.Pack(api.Inode{Kind: api.File, Links: 1, Size: 600 * 1024, Single: 10, Double: 11})
	put(2*1024+64, b, err)
	b, err = dinode.PackPointers([]int{12, 0, 13})
	put(11*1024, b, err)
	b, err = entry.PackBlock([]api.Entry{{Ino: 1, Name: "."}, {Ino: 1, Name: ".."}, {Ino: 2, Name: "f"}})
	put(3*1024, b, err)
	image, _, _ = fsck.Repair(image)
	for _, lines := range [][]string{
		{"stat /f"},
		{"write /f 8192 01", "write /f 270336 02", "trunc /f 9000"},
		{"unlink /f", "create /f"},
		{"trunc /f 614400"},
		{"trunc /f 700000", "write /f 600000 03", "trunc /f 10"},
	} {
		f, err := Mount(disk.Of(image))
		if err != api.OK {
			t.Fatal(err)
		}
		free := 0
		for n := range 100 {
			c, _ := calls.Read(append(lines, "create /g")[min(n, len(lines))])
			if n > len(lines) {
				c = api.Call{Kind: api.CWrite, Path: "/g", Off: n * 1024, Data: []byte("x")}
			}
			if r := f.Do(c); r.Err == api.ErrSpace {
				free++
			} else if r.Err != api.OK {
				t.Fatalf("%+v: %d", c, r.Err)
			}
		}
		if free == 0 {
			t.Error("more room than there is")
		}
		if r := f.Do(api.Call{Kind: api.CSync}); r.Err != api.OK {
			t.Error(r.Err)
		}
		if nodes, err := reader.Nodes(f.d.Image()); err != api.OK || !walk.Same(nodes, f.Nodes()) {
			t.Errorf("%d", err)
		}
	}
}

// P2106

func TestPower(t *testing.T) {
	for cut := range 60 {
		w := watch(t, small)
		w.must("mkdir /a", "create /a/f", "write /a/f 0 "+strings.Repeat("07", 3000), "sync", "write /a/f 100 "+strings.Repeat("08", 2000), "rename /a/f /g")
		w.d.Cut(cut)
		r := w.f.Do(api.Call{Kind: api.CSync})
		w.moments()
		if !w.d.Dead() {
			if r.Err != api.OK || w.f.Left() > 0 {
				t.Errorf("cut at %d: %d", cut, r.Err)
			}
			continue
		}
		left := w.f.Left()
		if !same(r, api.Result{Err: api.ErrPower}) || w.f.Step() || left == 0 {
			t.Errorf("cut at %d: %+v", cut, r)
		}
		for _, c := range []api.Call{{Kind: api.CCreate, Path: "/h"}, {Kind: api.CStat, Path: "/"}, {Kind: api.CSync}, {Kind: api.CFsync, Path: "/g"}, {Kind: api.CWrite, Path: "/g", Data: []byte("x")}} {
			if r := w.f.Do(c); !same(r, api.Result{Err: api.ErrPower}) {
				t.Errorf("%+v: %+v", c, r)
			}
		}
		if w.f.Left() != left || len(w.d.Log()) != w.seen {
			t.Errorf("left %d, then %d", left, w.f.Left())
		}
		if _, err := Mount(w.d); err != api.ErrPower {
			t.Errorf("mounted: %d", err)
		}
		w.d.Start()
		w.must("write /g 2000 09", "create /a/f", "sync")
	}
}

// TestStopsAtOnce: a step that meets the end of power tells false, and nothing is done by it; it is done later.
func TestStopsAtOnce(t *testing.T) {
	w := watch(t, small)
	w.must("mkdir /a", "create /a/f", "write /a/f 0 "+strings.Repeat("07", 3000))
	for w.f.Left() > 0 {
		for sectors := range 2 {
			left := w.f.Left()
			w.d.Cut(sectors)
			if w.f.Step() || !w.d.Dead() || w.f.Step() || w.f.Left() != left {
				t.Fatalf("left %d, then %d", left, w.f.Left())
			}
			w.moments()
			w.d.Start()
		}
		if !w.f.Step() {
			t.Fatal("stuck")
		}
		w.moments()
	}
	w.synced()
}
