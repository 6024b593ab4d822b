package fs

import (
	"strings"
	"testing"

	"lockgate/api"
	"lockgate/walk"
)

// P2104, P2107: whichever of the changes that may be on the disk are there.

// TestCreated: what is new is whole ahead of its name, and so is the way to it.
func TestCreated(t *testing.T) {
	w := watch(t, small)
	w.look("mkdir /a", "mkdir /a/b", "create /a/b/f", "write /a/b/f 1000 "+strings.Repeat("07", 3000), "link /a/b/f /g", "rename /a/b /b", "sync")
}

// TestMovedOut: what was moved out of a directory is not lost with it.
func TestMovedOut(t *testing.T) {
	w := watch(t, small)
	w.must("mkdir /a", "create /a/f", "mkdir /a/d", "create /a/d/g", "mkdir /b", "create /b/f", "mkdir /c", "sync")
	w.look("rename /a/f /f", "rename /a/d /d", "rmdir /a")
	w.must("sync")
	w.look("rename /b/f /g", "rename /c /b", "rename /b /d/b", "sync")
}

// TestParentsOfMoved: a directory is no parent any more, not even by "..", ahead of losing its own name, or that of its parent.
func TestParentsOfMoved(t *testing.T) {
	w := watch(t, small)
	w.must("mkdir /a", "mkdir /a/b", "mkdir /a/b/c", "mkdir /d", "mkdir /e", "sync")
	w.look("rename /a/b/c /d/c", "rmdir /a/b", "rmdir /a", "rename /d/c /c", "rename /e /d", "rename /c /d/c", "rename /d /f", "sync")
}

// TestMovedOnto: what is replaced can't be reached by any other name then.
func TestMovedOnto(t *testing.T) {
	w := watch(t, small)
	w.must("mkdir /a", "mkdir /b", "mkdir /c", "create /f", "create /g", "write /g 0 01", "link /g /h", "sync")
	w.look("rename /a /b/a", "rename /c /b/a", "rename /f /k", "rename /g /k", "rename /h /k", "rename /k /h", "rename /b/a /c", "rename /c /b", "sync")
}

// TestMovedAbove: directories that go into each other can always be reached.
func TestMovedAbove(t *testing.T) {
	w := watch(t, small)
	w.must("mkdir /a", "mkdir /a/b", "mkdir /a/b/c", "create /a/b/c/f", "mkdir /d", "mkdir /d/x", "mkdir /d/x/e", "mkdir /d/x/e/g", "sync")
	w.look("rename /d/x/e /e", "rename /d /e/g/d", "sync", "rename /e /d", "rename /d/g/d/x /x", "rename /d /x/d", "sync")
	w.look("rename /a/b /b", "rename /a /b/c/a", "rename /b/c /c", "rename /b /c/a/b", "rename /c/a /a", "rename /c /a/b/c", "sync")
	if got := w.play("list /", "list /a", "list /a/b", "list /a/b/c"); got != "names a x; names b; names c; names f" {
		t.Error(got)
	}
}

// TestRenamesInARing: slots are used anew ahead of a sync, and nothing is lost between.
func TestRenamesInARing(t *testing.T) {
	w := watch(t, small)
	w.must("create /a", "create /b", "mkdir /c", "mkdir /d", "write /a 0 01", "write /b 0 02", "mkdir /c/e", "sync")
	w.look("rename /a /t", "rename /b /a", "rename /t /b", "rename /c/e /e", "rename /c /e/c", "rename /d /e/c/d", "rename /e/c/d /d", "rename /e/c /d/c", "rename /e /d/c/e", "mkdir /x", "rename /d/c/e /x", "sync")
	if got := w.play("read /a 0 1", "read /b 0 1", "list /", "list /d"); got != "data 02; data 01; names a b d x; names c" {
		t.Error(got)
	}
}

// TestIntoNewBlocks: a block of entries can be reached ahead of what is moved into it; also one behind the direct ones.
func TestIntoNewBlocks(t *testing.T) {
	for _, names := range []int{30, 8*32 - 2, 9*32 - 2} {
		w := watch(t, small)
		w.must("mkdir /d", "create /f", "write /f 0 01", "create /g", "create /x")
		w.fill("link /x", "/d", names)
		w.must("sync")
		w.look("rename /f /d/f", "create /d/h", "rename /g /d/g", "rename /d /e", "sync")
	}
}

// TestNamesUsedAnew: a name has one entry on the disk, whichever slots it had.
func TestNamesUsedAnew(t *testing.T) {
	w := watch(t, small)
	w.must("create /a", "write /a 0 01", "create /b", "create /c", "sync")
	w.look("unlink /a", "create /d", "create /a", "write /a 0 02", "rename /b /e", "unlink /c", "create /b", "create /c", "fsync /a", "fsync /b", "sync")
	w.look("mkdir /x", "rename /d /x/d", "create /y", "create /d", "write /d 0 03", "fsync /d", "sync")
	if got := w.play("read /a 0 9", "read /d 0 9", "list /"); got != "data 02; data 03; names y b c a e x d" {
		t.Error(got)
	}
}

// TestNeverWithoutName: a file that had a name at all times has one on the disk at all times, or two.
func TestNeverWithoutName(t *testing.T) {
	w := watch(t, small)
	w.must("mkdir /a", "create /a/f", "write /a/f 0 01", "sync")
	w.look("link /a/f /g", "unlink /a/f", "link /g /h", "rename /h /a/h", "unlink /g", "create /k", "rename /a/h /k", "rmdir /a", "sync")
	w.look("create /g", "mkdir /a", "link /k /a/k", "rename /g /k", "link /a/k /k2", "unlink /a/k", "sync")
}

// TestInodesUsedAnew: an inode is another's only when no name leads to it any more.
func TestInodesUsedAnew(t *testing.T) {
	w := watch(t, api.Geometry{Groups: 1, Inodes: 1, Data: 30})
	w.fill("create", "", 14)
	w.must("mkdir /d", "write /aa 0 01", "sync")
	w.look("unlink /aa", "create /d/f", "write /d/f 0 02", "unlink /ba", "mkdir /d/g", "rmdir /d/g", "create /h", "sync")
}

// TestBlocksUsedAnew: a block is another's only when nothing leads to it any more, be it one of data, of entries or of pointers.
func TestBlocksUsedAnew(t *testing.T) {
	full := strings.Repeat("11", 1024)
	w := watch(t, api.Geometry{Groups: 1, Inodes: 1, Data: 12})
	w.must("create /a", "create /b", "mkdir /d", "write /a 0 "+strings.Repeat("05", 8000), "write /a 9000 06", "sync")
	if got := w.play("write /b 0 " + full + "22"); got != "error 16" {
		t.Fatal(got)
	}
	w.look("write /a 8192 "+full, "trunc /a 3000", "write /b 0 "+full+full+full, "rmdir /d", "write /b 9000 07", "mkdir /e", "unlink /a", "write /b 4000 "+full+full, "trunc /b 1", "mkdir /f", "sync")
}

// TestTablesUsedAnew: all that was done to a block of pointers is behind it, not only the last.
func TestTablesUsedAnew(t *testing.T) {
	full := strings.Repeat("11", 1024)
	w := watch(t, api.Geometry{Groups: 1, Inodes: 1, Data: 13})
	w.must("create /a", "create /b", "write /a 8192 "+strings.Repeat("05", 3072), "write /a 272384 07", "write /a 534528 08", "sync")
	w.look("write /a 8192 "+full, "write /a 9216 "+full, "write /a 10240 "+full, "write /a 272384 "+full, "trunc /a 280000", "unlink /a",
		"write /b 0 "+strings.Repeat("09", 2000), "sync")
}

// TestSectorsOfABlock: a file's block has on the disk what it had in memory, or it is a hole.
func TestSectorsOfABlock(t *testing.T) {
	w := watch(t, small)
	w.must("create /f", "write /f 0 "+strings.Repeat("01", 1024), "write /f 9000 "+strings.Repeat("02", 200), "write /f 272384 "+strings.Repeat("03", 1024), "sync")
	for _, at := range []string{"0", "9000", "272384"} {
		w.look("write /f "+at+" 04", "write /f "+at+" 05", "sync")
	}
	w.look("write /f 600 06", "write /f 7 07", "write /f 601 08", "sync")
	w.look("write /f 511 0a0b", "write /f 272895 0c0d", "write /f 272384 0e0f", "write /f 512 0d", "sync")
	w.look("trunc /f 272385", "trunc /f 9001", "trunc /f 300000", "trunc /f 1", "write /f 1020 "+strings.Repeat("07", 1030), "sync")
}

// TestWithoutRoom: where nothing is free a block is a hole while it is written.
func TestWithoutRoom(t *testing.T) {
	w := watch(t, api.Geometry{Groups: 1, Inodes: 1, Data: 12})
	w.must("create /f", "write /f 0 "+strings.Repeat("01", 8192), "write /f 8192 "+strings.Repeat("02", 1024), "create /g", "write /g 0 03", "sync")
	if _, free := w.f.room.Free(); free != 0 {
		t.Fatalf("%d are free", free)
	}
	w.look("write /f 0 "+strings.Repeat("04", 1024), "write /f 0 05", "write /f 8192 "+strings.Repeat("06", 1024), "write /f 1000 "+strings.Repeat("07", 2000), "trunc /f 9000", "trunc /f 100", "sync")
}

// TestSizesBehindBytes: what a write put at a file's end is there when the file ends behind it.
func TestSizesBehindBytes(t *testing.T) {
	w := watch(t, small)
	w.must("create /f", "write /f 0 01", "sync")
	for _, line := range []string{"write /f 600 02", "write /f 1000 " + strings.Repeat("03", 100), "write /f 9000 04", "write /f 10000 05", "write /f 300000 06", "write /f 300600 07", "write /f 302000 08"} {
		w.must(line)
		want, _ := at(w.now, 2)
		for _, id := range w.left() {
			got, _ := at(w.might(w.f.graph.Need([]int{id})), 2)
			if got.Size == want.Size && !walk.Same([]api.Node{got}, []api.Node{want}) {
				t.Errorf("%s: the size is there, the bytes are not", line)
			}
		}
		w.must("sync")
	}
}

// TestGreatestLinks: a file of MaxLinks links keeps all other names while one is changed.
func TestGreatestLinks(t *testing.T) {
	w := watch(t, api.Geometry{Groups: 2, Inodes: 1, Data: 600})
	both := func(s string, c api.Call) { // without a look at each moment
		if got, want := w.f.Do(c), w.tree.Do(c); !same(got, want) || got.Err != api.OK {
			t.Fatalf("%s: %+v, not %+v", s, got, want)
		}
	}
	both("mkdir", api.Call{Kind: api.CMkdir, Path: "/d"})
	both("create", api.Call{Kind: api.CCreate, Path: "/f"})
	both("create", api.Call{Kind: api.CCreate, Path: "/g"})
	for n := range api.MaxLinks - 1 {
		s := "/d/" + string(rune('a'+n%26)) + string(rune('a'+n/26%26)) + string(rune('a'+n/26/26%26)) + string(rune('a'+n/26/26/26))
		both("link", api.Call{Kind: api.CLink, Path: "/f", To: s})
	}
	both("sync", api.Call{Kind: api.CSync})
	w.image = w.d.Image()
	w.seen = len(w.d.Log())
	w.begin()
	if got := w.play("stat /f", "link /f /k"); got != "file 0 32000; error 20" {
		t.Fatal(got)
	}
	w.must("rename /f /k", "rename /k /g", "unlink /d/baaa", "link /g /l", "rename /g /d/baaa")
	w.each()
	w.must("sync")
}
