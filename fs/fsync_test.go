package fs

import (
	"slices"
	"strings"
	"testing"

	"lockgate/api"
	"lockgate/fsck"
	"lockgate/reader"
	"lockgate/walk"
)

// P2102: what is fsynced is found as it was until a call changes it. That is looked at behind each sector, and in each disk that might be.

func TestFsyncOfFiles(t *testing.T) {
	w := watch(t, small)
	w.look("mkdir /a", "create /a/f", "write /a/f 100 "+strings.Repeat("07", 2000), "write /a/f 9000 01", "create /g", "write /g 0 05", "fsync /a/f")
	w.look("write /g 1 06", "create /a/g", "unlink /g", "mkdir /h", "rename /a/g /h/g")
	w.look("write /a/f 511 0909", "trunc /a/f 1000", "write /a/f 300000 03", "fsync /a/f", "create /k", "trunc /a/f 20", "fsync /a/f", "fsync /k", "sync")
}

func TestFsyncOfLinks(t *testing.T) {
	w := watch(t, small)
	w.must("mkdir /a", "create /a/f", "write /a/f 0 07", "link /a/f /g", "mkdir /b", "sync")
	w.look("unlink /g", "link /a/f /b/h", "fsync /a/f", "create /b/k", "rename /b /c", "rename /a/f /f", "fsync /c/h", "rename /c /d", "create /g", "rename /f /g", "fsync /g", "sync")
}

func TestFsyncOfWays(t *testing.T) {
	w := watch(t, small)
	w.must("mkdir /a", "mkdir /a/b", "create /a/b/f", "mkdir /c", "sync")
	w.look("rename /a/b /c/b", "write /c/b/f 0 01", "fsync /c/b/f", "rename /a /d", "mkdir /a", "rename /c/b /a/b", "fsync /a/b/f", "rename /a /c/a", "rename /c/a/b/f /f", "fsync /f", "sync")
}

func TestFsyncOfDirectories(t *testing.T) {
	w := watch(t, small)
	w.must("mkdir /a", "mkdir /a/b", "create /a/f", "mkdir /c", "create /c/g", "sync")
	w.look("rename /a/b /c/b", "rename /c/g /a/g", "link /a/f /c/h", "fsync /c", "unlink /a/g", "create /a/k", "rename /c/b /c/z", "fsync /a", "rename /a /b", "fsync /", "create /m", "link /b/k /a", "unlink /a", "mkdir /a", "link /b/k /a/k", "sync")
	w.look("rename /b/k /c/k", "mkdir /c/x", "sync", "rename /c/x /b/x", "fsync /b", "sync")
	w.must("create /b/k")
	w.fill("link /b/k", "/c", 27)
	w.must("sync")
	w.look("create /c/more", "fsync /c", "unlink /c/aa", "rename /c/more /n", "fsync /c", "sync")
}

// TestFsyncWritesWhatItNeeds, and nothing for what lies there.
func TestFsyncWritesWhatItNeeds(t *testing.T) {
	w := watch(t, small)
	w.must("create /f", "create /g", "sync", "write /f 0 "+strings.Repeat("01", 1024), "write /g 0 "+strings.Repeat("02", 3000))
	log := len(w.d.Log())
	w.must("fsync /f")
	if n := (len(w.d.Log()) - log) / 2; n != 3 { // the block, its mark, the inode
		t.Errorf("%d blocks are written", n)
	}
	fixed, _, _ := fsck.Repair(w.d.Image())
	found, _ := reader.Raw(fixed)
	if _, g, ok := lead(found, "/g"); !ok || g.Size != 0 || w.f.Left() == 0 {
		t.Errorf("%+v is there too", g)
	}
	w.must("link /f /f2", "link /f /f3", "link /f /f4", "create /h")
	log = len(w.d.Log())
	w.must("fsync /h")
	if n := (len(w.d.Log()) - log) / 2; n != 3 { // its mark, the inode, the name
		t.Errorf("%d blocks are written", n)
	}
	w.must("fsync /f")
	log = len(w.d.Log())
	w.must("fsync /f", "fsync /")
	if n := len(w.d.Log()) - log; n != 0 {
		t.Errorf("%d sectors are written anew", n)
	}
	w.must("fsync /g", "fsync /f")
	if w.f.Left() != 0 {
		t.Errorf("left %d", w.f.Left())
	}
}

// TestFsyncWithoutPower: it is ErrPower only if it was not through.
func TestFsyncWithoutPower(t *testing.T) {
	for cut := range 20 {
		w := watch(t, small)
		w.must("mkdir /a", "create /a/f", "write /a/f 0 "+strings.Repeat("07", 1500), "create /g")
		w.d.Cut(cut)
		r := w.f.Do(api.Call{Kind: api.CFsync, Path: "/a/f"})
		w.moments()
		if w.d.Dead() != (r.Err == api.ErrPower) || r.Err != api.OK && !same(r, api.Result{Err: api.ErrPower}) {
			t.Errorf("cut at %d: %+v", cut, r)
		}
		fixed, _, _ := fsck.Repair(w.image)
		found, _ := reader.Nodes(fixed)
		k, err := walk.Find(found, "/a/f")
		if r.Err == api.OK && (err != api.OK || found[k].Size != 1500 || len(found[k].Blocks) != 2 || slices.Contains(found[k].Blocks[0].Data, 0)) {
			t.Errorf("cut at %d: it is not there", cut)
		}
		w.d.Start()
		w.must("fsync /a/f", "sync")
	}
}
