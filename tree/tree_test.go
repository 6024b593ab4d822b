package tree

import (
	"bytes"
	"fmt"
	"maps"
	"math"
	"slices"
	"strings"
	"testing"

	"lockgate/api"
	"lockgate/bmap"
	"lockgate/calls"
	"lockgate/geom"
	"lockgate/walk"
)

// wide is a geometry with more room than most tests need.
func wide() api.Geometry { return api.Geometry{Groups: 8, Inodes: 4, Data: 1000} }

// do does calls, each a line of words, and tells their results' lines.
func do(t *testing.T, x *Tree, lines ...string) string {
	t.Helper()
	var out []string
	for _, s := range lines {
		c, err := calls.Read(s)
		if err != api.OK {
			t.Fatalf("no call: %q", s)
		}
		out = append(out, calls.Show(c.Kind, x.Do(c)))
	}
	return strings.Join(out, "; ")
}

// play does calls that must all be taken.
func play(t *testing.T, x *Tree, lines ...string) {
	t.Helper()
	for _, s := range lines {
		if got := do(t, x, s); strings.HasPrefix(got, "error") {
			t.Fatalf("%s: %s", s, got)
		}
	}
}

// expect does calls, each with the line that is wanted.
func expect(t *testing.T, x *Tree, pairs ...string) {
	t.Helper()
	for i := 0; i < len(pairs); i += 2 {
		if got := do(t, x, pairs[i]); got != pairs[i+1] {
			t.Errorf("%s: %s, not %s", pairs[i], got, pairs[i+1])
		}
	}
}

// refused does calls, each with the error that is wanted; none of them may change anything.
func refused(t *testing.T, x *Tree, pairs ...any) {
	t.Helper()
	for i := 0; i < len(pairs); i += 2 {
		was, inodes, blocks := x.Nodes(), x.inodes, x.blocks
		want := fmt.Sprint("error ", int(pairs[i+1].(api.Errno)))
		if got := do(t, x, pairs[i].(string)); got != want {
			t.Errorf("%s: %s, not %s", pairs[i], got, want)
		}
		if !walk.Same(was, x.Nodes()) || inodes != x.inodes || blocks != x.blocks {
			t.Errorf("%s: changed something", pairs[i])
		}
	}
}

// used counts anew what Used must tell.
func used(x *Tree) (int, int) {
	l := x.Nodes()
	blocks := 0
	for _, n := range l {
		var numbers []int
		for _, p := range n.Blocks {
			numbers = append(numbers, p.At)
		}
		if n.Kind == api.Dir {
			for at := range n.Size / api.Block {
				numbers = append(numbers, at)
			}
		}
		blocks += len(numbers) + bmap.Meta(numbers)
	}
	return len(l), blocks
}

// P1001

func TestNewIsARootWithoutNames(t *testing.T) {
	want := []api.Node{{Ino: 1, Kind: api.Dir, Links: 2, Size: 1024, Slots: make([]api.Entry, 30)}}
	for _, g := range []api.Geometry{{Groups: 1, Inodes: 1, Data: 8}, wide(), {}, {Groups: 9, Inodes: 1, Data: 8}, {Groups: -1, Inodes: math.MaxInt, Data: math.MinInt}} {
		x := New(g)
		if got := x.Nodes(); !walk.Same(got, want) {
			t.Errorf("%v: %v", g, got)
		}
		if i, b := x.Used(); i != 1 || b != 1 {
			t.Errorf("%v: %d, %d used", g, i, b)
		}
		expect(t, x, "stat /", "dir 1024 2", "list /", "names", "sync", "ok", "fsync /", "ok")
	}
}

func TestARefusedGeometryHasNoRoom(t *testing.T) {
	for _, g := range []api.Geometry{{}, {Groups: 0, Inodes: 1, Data: 8}, {Groups: 1, Inodes: 1, Data: 7}, {Groups: 1, Inodes: 5, Data: 8}, {Groups: math.MaxInt, Inodes: math.MaxInt, Data: math.MaxInt}} {
		refused(t, New(g), "create /a", api.ErrSpace, "mkdir /a", api.ErrSpace, "create /", api.ErrExists, "mkdir /a/b", api.ErrNone, "write /a 0 -", api.ErrNone, "link / /a", api.ErrIsDir)
	}
}

func TestNodesAreNumberedAnew(t *testing.T) {
	x := New(wide())
	play(t, x, "mkdir /z", "mkdir /y", "create /y/q", "create /z/p", "link /y/q /z/r", "mkdir /z/d", "create /z/d/e", "link /z/p /top", "create /last", "unlink /last")
	var got []string
	for i, n := range x.Nodes() {
		if n.Ino != i+1 {
			t.Errorf("at %d: %d", i, n.Ino)
		}
		s := fmt.Sprint(n.Kind, " ", n.Links, " ", n.Size)
		for at, e := range n.Slots {
			if e != (api.Entry{}) {
				s += fmt.Sprint(" ", at, e.Name, e.Ino)
			}
		}
		got = append(got, s)
	}
	// The root's slots come first (z, y, top), then those of z (p is top, r, d), of y (q is r), of d.
	want := []string{"2 4 1024 0z2 1y3 2top4", "2 3 1024 0p4 1r5 2d6", "2 2 1024 0q5", "1 2 0", "1 2 0", "2 2 1024 0e7", "1 1 0"}
	if !slices.Equal(got, want) {
		t.Errorf("%q, not %q", got, want)
	}
}

func TestNodesTellBlocks(t *testing.T) {
	x := New(wide())
	play(t, x, "create /f", "write /f 270400 0102", "write /f 9000 03", "write /f 1023 0405", "trunc /f 271000")
	n := x.Nodes()[1]
	if n.Kind != api.File || n.Size != 271000 || n.Links != 1 || len(n.Slots) != 0 {
		t.Errorf("%v", n)
	}
	var at []int
	for _, p := range n.Blocks {
		at = append(at, p.At)
		if len(p.Data) != api.Block {
			t.Errorf("block %d: %d bytes", p.At, len(p.Data))
		}
	}
	if want := []int{0, 1, 8, 264}; !slices.Equal(at, want) {
		t.Fatalf("%v, not %v", at, want)
	}
	for i, want := range []map[int]byte{{1023: 4}, {0: 5}, {808: 3}, {64: 1, 65: 2}} {
		for k, b := range n.Blocks[i].Data {
			if b != want[k] {
				t.Errorf("block %d, byte %d: %d", at[i], k, b)
			}
		}
	}
}

func TestSlots(t *testing.T) {
	x := New(wide())
	play(t, x, "create /f")
	for i := range 29 {
		play(t, x, fmt.Sprint("link /f /n", i))
	}
	expect(t, x, "stat /", "dir 1024 2")
	play(t, x, "link /f /more")
	expect(t, x, "stat /", "dir 2048 2", "stat /f", "file 0 31")
	l := x.Nodes()[0]
	if len(l.Slots) != 62 || l.Slots[30] != (api.Entry{Ino: 2, Name: "more"}) || l.Slots[31] != (api.Entry{}) {
		t.Errorf("%d slots, %v", len(l.Slots), l.Slots[28:])
	}
	play(t, x, "unlink /n7", "unlink /n3", "unlink /n20", "link /f /first", "link /f /second", "link /f /third", "link /f /fourth")
	l = x.Nodes()[0]
	for at, name := range map[int]string{4: "first", 8: "second", 21: "third", 31: "fourth"} {
		if l.Slots[at].Name != name {
			t.Errorf("slot %d: %v", at, l.Slots[at])
		}
	}
}

func TestADirectoryKeepsItsBlocks(t *testing.T) {
	x := New(wide())
	play(t, x, "mkdir /d", "create /f")
	for i := range 95 {
		play(t, x, fmt.Sprint("link /f /d/n", i))
	}
	expect(t, x, "stat /d", "dir 4096 2")
	for i := range 95 {
		play(t, x, fmt.Sprint("unlink /d/n", i))
	}
	expect(t, x, "stat /d", "dir 4096 2", "list /d", "names", "rmdir /d", "ok", "mkdir /d", "ok", "stat /d", "dir 1024 2")
}

// P1002

func TestPaths(t *testing.T) {
	x := New(wide())
	play(t, x, "mkdir /a", "mkdir /a/b", "create /a/b/f", "create /g")
	for _, word := range []string{"create", "mkdir", "unlink", "rmdir", "stat", "list", "fsync"} {
		refused(t, x,
			word+" a", api.ErrName, word+" %", api.ErrName, word+" //", api.ErrName, word+" /a/", api.ErrName, word+" /a/./b", api.ErrName, word+" /a/..", api.ErrName, word+" /"+strings.Repeat("n", 28), api.ErrName,
			word+" /"+strings.Repeat("a/", 250), api.ErrName, word+" /no/b", api.ErrNone, word+" /no/b/c", api.ErrNone, word+" /a/no/x", api.ErrNone, word+" /g/x", api.ErrNotDir, word+" /g/x/y", api.ErrNotDir, word+" /a/b/f/x", api.ErrNotDir, word+" /A/b", api.ErrNone)
	}
	for _, word := range []string{"stat", "list", "fsync", "unlink", "rmdir"} {
		refused(t, x, word+" /no", api.ErrNone, word+" /a/no", api.ErrNone, word+" /a/b/no", api.ErrNone)
	}
	expect(t, x, "stat /a/b/f", "file 0 1", "stat /a/b", "dir 1024 2", "stat /a", "dir 1024 3")
}

func TestNames(t *testing.T) {
	x := New(wide())
	long := strings.Repeat("n", 27)
	play(t, x, "create /"+long, "create /%20", "create /%ff%01", "create /...", "create /%25")
	expect(t, x, "list /", "names "+long+" %20 %ff%01 ... %25", "stat /"+long, "file 0 1")
	deep := New(wide())
	s := ""
	for range 17 {
		s += "/" + long
		play(t, deep, "mkdir "+s)
	}
	expect(t, deep, "create "+s+"/"+strings.Repeat("x", 500-len(s)-1), "ok")
	refused(t, deep, "create "+s+"/"+strings.Repeat("x", 500-len(s)), api.ErrName)
}

// P1003

func TestCreate(t *testing.T) {
	x := New(wide())
	play(t, x, "create /f", "mkdir /d")
	refused(t, x, "create /", api.ErrExists, "create /f", api.ErrExists, "create /d", api.ErrExists, "create /f/x", api.ErrNotDir, "create /no/x", api.ErrNone)
	expect(t, x, "create /d/f", "ok", "stat /d/f", "file 0 1", "stat /d", "dir 1024 2", "read /d/f 0 9", "data -", "list /", "names f d")
}

func TestMkdir(t *testing.T) {
	x := New(wide())
	play(t, x, "create /f", "mkdir /d")
	refused(t, x, "mkdir /", api.ErrExists, "mkdir /f", api.ErrExists, "mkdir /d", api.ErrExists, "mkdir /f/x", api.ErrNotDir, "mkdir /no/x", api.ErrNone)
	expect(t, x, "mkdir /d/e", "ok", "mkdir /d/g", "ok", "stat /d/e", "dir 1024 2", "stat /d", "dir 1024 4", "stat /", "dir 1024 3", "list /d", "names e g", "list /d/e", "names")
}

func TestMkdirOfTooManyLinks(t *testing.T) {
	x := New(api.Geometry{Groups: 1, Inodes: 1, Data: 8})
	play(t, x, "create /f")
	x.root.links = api.MaxLinks
	refused(t, x, "mkdir /d", api.ErrLinks, "mkdir /f", api.ErrExists)
	expect(t, x, "create /g", "ok")
	x.root.links--
	expect(t, x, "mkdir /d", "ok", "stat /", "dir 1024 32000")
	for i := range 12 {
		play(t, x, fmt.Sprint("create /d/", i))
	}
	refused(t, x, "create /e", api.ErrSpace, "mkdir /e", api.ErrLinks, "mkdir /d/e", api.ErrSpace)
}

func TestLink(t *testing.T) {
	x := New(wide())
	play(t, x, "create /f", "mkdir /d", "link /f /d/g", "write /d/g 0 41")
	expect(t, x, "read /f 0 9", "data 41", "stat /f", "file 1 2", "stat /d", "dir 1024 2", "link /d/g /h", "ok", "stat /h", "file 1 3", "list /", "names f d h")
	refused(t, x,
		"link x y", api.ErrName, "link /no y", api.ErrName, "link /d y", api.ErrName, "link x /", api.ErrName,
		"link /no /", api.ErrNone, "link /no/x /f", api.ErrNone, "link /f/x /f", api.ErrNotDir,
		"link /d /", api.ErrIsDir, "link / /", api.ErrIsDir, "link /d /no/x", api.ErrIsDir, "link /d /f", api.ErrIsDir,
		"link /f /", api.ErrExists, "link /f /no/x", api.ErrNone, "link /f /h/x", api.ErrNotDir, "link /f /h", api.ErrExists, "link /f /f", api.ErrExists, "link /f /d", api.ErrExists)
}

func TestLinkOfTooManyLinks(t *testing.T) {
	x := New(wide())
	play(t, x, "create /f")
	for i := range 31999 {
		if r := x.Do(api.Call{Kind: api.CLink, Path: "/f", To: fmt.Sprint("/", i)}); r.Err != api.OK {
			t.Fatalf("%d: %v", i, r)
		}
	}
	play(t, x, "mkdir /d")
	// 32,001 names and the dots.
	expect(t, x, "stat /7", "file 0 32000", "stat /", fmt.Sprint("dir ", 1001*1024, " 3"))
	if i, b := x.Used(); i != 3 || b != 1001+1+1+3+1 {
		t.Errorf("%d, %d used", i, b)
	}
	if r := x.Do(api.Call{Kind: api.CLink, Path: "/9", To: "/more"}); r.Err != api.ErrLinks {
		t.Errorf("%v", r)
	}
	expect(t, x, "link /9 /7", "error 11", "rename /9 /d/nine", "ok", "stat /d/nine", "file 0 32000", "unlink /31", "ok", "link /9 /more", "error 10", "link /7 /more", "ok", "link /7 /again", "error 20")
	if at := x.root.places["more"]; at != 10 { // that of 9, which is behind f and 0 to 8
		t.Errorf("slot %d", at)
	}
}

func TestUnlink(t *testing.T) {
	x := New(wide())
	play(t, x, "create /f", "link /f /g", "mkdir /d", "create /d/h", "write /f 0 4142")
	refused(t, x, "unlink /", api.ErrRoot, "unlink /d", api.ErrIsDir, "unlink /no", api.ErrNone, "unlink /f/x", api.ErrNotDir, "unlink /no/x", api.ErrNone, "unlink x", api.ErrName)
	expect(t, x, "unlink /f", "ok", "stat /f", "error 10", "read /g 0 9", "data 4142", "stat /g", "file 2 1", "unlink /d/h", "ok", "list /d", "names", "unlink /g", "ok", "list /", "names d")
	if l := x.Nodes(); len(l) != 2 || l[0].Slots[2] != (api.Entry{Ino: 2, Name: "d"}) {
		t.Errorf("%v", l)
	}
	if i, b := x.Used(); i != 2 || b != 2 {
		t.Errorf("%d, %d used", i, b)
	}
}

func TestRmdir(t *testing.T) {
	x := New(wide())
	play(t, x, "create /f", "mkdir /d", "mkdir /d/e", "create /d/e/g")
	refused(t, x, "rmdir /", api.ErrRoot, "rmdir /f", api.ErrNotDir, "rmdir /no", api.ErrNone, "rmdir /d", api.ErrFull, "rmdir /d/e", api.ErrFull, "rmdir /f/x", api.ErrNotDir, "rmdir x", api.ErrName)
	expect(t, x, "unlink /d/e/g", "ok", "rmdir /d/e", "ok", "stat /d", "dir 1024 2", "rmdir /d", "ok", "stat /", "dir 1024 2", "list /", "names f", "rmdir /d", "error 10")
	if i, b := x.Used(); i != 2 || b != 1 {
		t.Errorf("%d, %d used", i, b)
	}
}

func TestRenameRefused(t *testing.T) {
	x := New(wide())
	play(t, x, "create /f", "mkdir /d", "mkdir /d/e", "create /d/e/g", "mkdir /empty", "create /h")
	refused(t, x,
		"rename x /", api.ErrName, "rename / x", api.ErrName, "rename /no x", api.ErrName, "rename x y", api.ErrName,
		"rename / /", api.ErrRoot, "rename / /x", api.ErrRoot, "rename /f /", api.ErrRoot, "rename /no /", api.ErrRoot, "rename /f/x /", api.ErrRoot,
		"rename /no/x /f/x", api.ErrNone, "rename /f/x /no/x", api.ErrNotDir, "rename /no /f/x", api.ErrNone, "rename /d/no /f", api.ErrNone,
		"rename /f /no/x", api.ErrNone, "rename /f /h/x", api.ErrNotDir, "rename /f /f/x", api.ErrNotDir, "rename /d /d/no/x", api.ErrNone, "rename /d /d/e/g/x", api.ErrNotDir,
		"rename /d /d/x", api.ErrLoop, "rename /d /d/e", api.ErrLoop, "rename /d /d/e/x", api.ErrLoop, "rename /d /d/e/g", api.ErrLoop, "rename /d/e /d/e/g", api.ErrLoop,
		"rename /d /f", api.ErrNotDir, "rename /empty /f", api.ErrNotDir, "rename /empty /d/e/g", api.ErrNotDir,
		"rename /f /d", api.ErrIsDir, "rename /f /empty", api.ErrIsDir, "rename /d/e/g /d", api.ErrIsDir, "rename /d/e/g /d/e", api.ErrIsDir,
		"rename /empty /d", api.ErrFull, "rename /empty /d/e", api.ErrFull, "rename /d/e /d", api.ErrFull)
}

func TestRenameToWhatIsNotThere(t *testing.T) {
	x := New(wide())
	play(t, x, "create /a", "create /f", "mkdir /d", "mkdir /d/e", "unlink /a", "write /f 0 41")
	expect(t, x, "rename /f /g", "ok", "list /", "names g d", "read /g 0 9", "data 41", "stat /f", "error 10")
	if l := x.Nodes()[0].Slots; l[0].Name != "g" || l[1] != (api.Entry{}) || l[2].Name != "d" {
		t.Errorf("%v", l[:4])
	}
	expect(t, x, "rename /g /d/g", "ok", "list /d", "names e g", "stat /d/g", "file 1 1", "list /", "names d", "stat /d", "dir 1024 3")
	expect(t, x, "rename /d/e /e", "ok", "stat /d", "dir 1024 2", "stat /", "dir 1024 4", "stat /e", "dir 1024 2", "rename /d /e/d", "ok", "stat /", "dir 1024 3", "stat /e", "dir 1024 3", "read /e/d/g 0 9", "data 41")
	expect(t, x, "rename /e /x", "ok", "stat /", "dir 1024 3", "list /x/d", "names g")
}

func TestRenameInOnePlaceDoesNotTakeItsOwnSlot(t *testing.T) {
	x := New(wide())
	play(t, x, "create /a", "create /b", "rename /a /c")
	if l := x.Nodes()[0].Slots; l[0] != (api.Entry{}) || l[1].Name != "b" || l[2].Name != "c" {
		t.Errorf("%v", l[:4])
	}
	play(t, x, "rename /c /a")
	if l := x.Nodes()[0].Slots; l[0].Name != "a" || l[2] != (api.Entry{}) {
		t.Errorf("%v", l[:4])
	}
	for i := range 28 {
		play(t, x, fmt.Sprint("link /b /n", i))
	}
	play(t, x, "rename /a /z")
	if l := x.Nodes()[0]; l.Size != 2048 || l.Slots[0] != (api.Entry{}) || l.Slots[30].Name != "z" {
		t.Errorf("%d, %v", l.Size, l.Slots[:1])
	}
}

func TestRenameOntoAFile(t *testing.T) {
	x := New(wide())
	play(t, x, "create /a", "create /b", "mkdir /d", "create /d/c", "write /a 0 61", "write /b 0 6262", "link /b /bb", "write /d/c 0 63")
	expect(t, x, "rename /a /b", "ok", "list /", "names b d bb", "read /b 0 9", "data 61", "read /bb 0 9", "data 6262", "stat /bb", "file 2 1", "stat /b", "file 1 1")
	expect(t, x, "rename /d/c /bb", "ok", "list /d", "names", "read /bb 0 9", "data 63", "list /", "names b d bb")
	if i, b := x.Used(); i != 4 || b != 4 {
		t.Errorf("%d, %d used", i, b)
	}
}

func TestRenameOntoADirectory(t *testing.T) {
	x := New(wide())
	play(t, x, "mkdir /a", "mkdir /b", "mkdir /c", "create /a/f", "mkdir /c/d", "mkdir /c/d/e")
	expect(t, x, "rename /a /b", "ok", "list /", "names b c", "list /b", "names f", "stat /", "dir 1024 4", "stat /b", "dir 1024 2")
	expect(t, x, "rename /b /c/d/e", "ok", "stat /", "dir 1024 3", "stat /c/d", "dir 1024 3", "list /c/d/e", "names f", "mkdir /n", "ok", "rename /c/d /n", "ok", "stat /c", "dir 1024 2", "stat /", "dir 1024 4", "stat /n", "dir 1024 3")
	if i, b := x.Used(); i != 5 || b != 4 {
		t.Errorf("%d, %d used", i, b)
	}
}

func TestRenameOntoItself(t *testing.T) {
	x := New(wide())
	play(t, x, "create /a", "link /a /b", "mkdir /d", "link /a /d/c")
	was := x.Nodes()
	expect(t, x, "rename /a /a", "ok", "rename /a /b", "ok", "rename /d/c /b", "ok", "rename /d /d", "ok", "rename /d/c /d/c", "ok")
	if !walk.Same(was, x.Nodes()) {
		t.Error("changed something")
	}
}

func TestRenameOfTooManyLinks(t *testing.T) {
	x := New(wide())
	play(t, x, "mkdir /a", "mkdir /a/b", "mkdir /c", "create /a/f", "mkdir /d")
	x.root.links = api.MaxLinks
	refused(t, x, "rename /a/b /b", api.ErrLinks, "rename /a /c/no/x", api.ErrNone)
	expect(t, x, "rename /a/f /f", "ok", "rename /d /e", "ok", "rename /a/b /c", "ok", "stat /", "dir 1024 32000", "rename /c /e", "ok", "stat /", "dir 1024 31999")
}

func TestRead(t *testing.T) {
	x := New(wide())
	play(t, x, "create /f", "mkdir /d", "write /f 1022 01020304", "write /f 4095 05", "trunc /f 5000")
	refused(t, x,
		"read x -1 0", api.ErrArg, "read /no 0 -1", api.ErrArg, "read /d 0 8193", api.ErrArg, "read /f -1 8193", api.ErrArg, fmt.Sprint("read /f ", math.MinInt, " 1"), api.ErrArg, fmt.Sprint("read /f 1 ", math.MinInt), api.ErrArg, fmt.Sprint("read /f 1 ", math.MaxInt), api.ErrArg,
		"read x 0 0", api.ErrName, "read /no 0 0", api.ErrNone, "read /f/x 0 0", api.ErrNotDir, "read /d 0 0", api.ErrIsDir, "read / 0 0", api.ErrIsDir)
	expect(t, x,
		"read /f 1020 8", "data 0000010203040000", "read /f 1023 2", "data 0203", "read /f 1024 1", "data 03", "read /f 1022 0", "data -",
		"read /f 4094 3", "data 000500", "read /f 4999 8192", "data 00", "read /f 5000 1", "data -", "read /f 5001 8192", "data -",
		fmt.Sprint("read /f ", math.MaxInt, " 8192"), "data -", fmt.Sprint("read /f ", math.MaxInt-8191, " 8192"), "data -")
	r := x.Do(api.Call{Kind: api.CRead, Path: "/f", N: 8192})
	want := make([]byte, 5000)
	copy(want[1022:], []byte{1, 2, 3, 4})
	want[4095] = 5
	if !bytes.Equal(r.Data, want) {
		t.Errorf("%d bytes", len(r.Data))
	}
}

func TestWriteRefused(t *testing.T) {
	x := New(wide())
	play(t, x, "create /f", "mkdir /d")
	refused(t, x,
		"write x -1 -", api.ErrArg, "write /d -1 -", api.ErrArg, fmt.Sprint("write /f ", math.MinInt, " 00"), api.ErrArg, "write x 0 "+strings.Repeat("00", 8193), api.ErrArg,
		"write x 0 -", api.ErrName, "write /no 0 -", api.ErrNone, "write /f/x 0 -", api.ErrNotDir, "write /d 0 -", api.ErrIsDir, fmt.Sprint("write /d ", math.MaxInt, " 00"), api.ErrIsDir,
		fmt.Sprint("write /f ", api.MaxSize, " 00"), api.ErrBig, fmt.Sprint("write /f ", api.MaxSize+1, " -"), api.ErrBig, fmt.Sprint("write /f ", math.MaxInt, " -"), api.ErrBig, fmt.Sprint("write /f ", math.MaxInt, " 0000"), api.ErrBig,
		fmt.Sprint("write /f ", api.MaxSize-8191, " ", strings.Repeat("00", 8192)), api.ErrBig)
}

func TestWriteOfNoBytes(t *testing.T) {
	x := New(wide())
	play(t, x, "create /f", "write /f 0 41")
	was := x.Nodes()
	expect(t, x, "write /f 0 -", "wrote 0", "write /f 5000 -", "wrote 0", fmt.Sprint("write /f ", api.MaxSize, " -"), "wrote 0")
	if !walk.Same(was, x.Nodes()) {
		t.Error("changed something")
	}
}

func TestWrite(t *testing.T) {
	x := New(wide())
	play(t, x, "create /f")
	file := make([]byte, 40000)
	size := 0
	seed := uint32(5)
	next := func(n int) int { seed = seed*1664525 + 1013904223; return int(seed>>8) % n }
	for range 300 {
		off, data := next(31000), make([]byte, next(8193))
		for i := range data {
			data[i] = byte(next(256))
		}
		if next(4) == 0 { // a cut between the writes: what it takes off must not come again
			n := next(32000)
			play(t, x, fmt.Sprint("trunc /f ", n))
			clear(file[n:])
			size = n
		}
		r := x.Do(api.Call{Kind: api.CWrite, Path: "/f", Off: off, Data: data})
		if r.Err != api.OK || r.N != len(data) {
			t.Fatalf("%v", r)
		}
		copy(file[off:], data)
		if len(data) > 0 {
			size = max(size, off+len(data))
		}
		off, n := next(size+10), next(8193)
		got := x.Do(api.Call{Kind: api.CRead, Path: "/f", Off: off, N: n}).Data
		if want := file[min(off, size):min(off+n, size)]; !bytes.Equal(got, want) {
			t.Fatalf("%d bytes at %d: not what was written", n, off)
		}
		expect(t, x, "stat /f", fmt.Sprint("file ", size, " 1"))
	}
	for _, p := range x.Nodes()[1].Blocks {
		if !bytes.Equal(p.Data, file[p.At*1024:(p.At+1)*1024]) {
			t.Errorf("block %d", p.At)
		}
	}
}

func TestWriteMakesTheBlocksThatItMeets(t *testing.T) {
	for _, c := range []struct {
		off, n int
		want   []int
	}{
		{0, 1, []int{0}}, {0, 1024, []int{0}}, {0, 1025, []int{0, 1}}, {1023, 1, []int{0}}, {1023, 2, []int{0, 1}}, {1024, 1024, []int{1}}, {1024, 1025, []int{1, 2}},
		{8191, 8192, []int{7, 8, 9, 10, 11, 12, 13, 14, 15}}, {api.MaxSize - 1, 1, []int{65799}}, {api.MaxSize - 1025, 1025, []int{65798, 65799}},
	} {
		x := New(wide())
		play(t, x, "create /f", fmt.Sprintf("write /f %d %s", c.off, strings.Repeat("01", c.n)))
		var got []int
		for _, p := range x.Nodes()[1].Blocks {
			got = append(got, p.At)
		}
		if !slices.Equal(got, c.want) {
			t.Errorf("%d bytes at %d: %v, not %v", c.n, c.off, got, c.want)
		}
		expect(t, x, "stat /f", fmt.Sprint("file ", c.off+c.n, " 1"))
	}
}

func TestTrunc(t *testing.T) {
	x := New(wide())
	play(t, x, "create /f", "mkdir /d", "write /f 0 "+strings.Repeat("01", 3000))
	refused(t, x,
		"trunc x -1", api.ErrArg, "trunc /d -1", api.ErrArg, fmt.Sprint("trunc /f ", math.MinInt), api.ErrArg,
		"trunc x 0", api.ErrName, "trunc /no 0", api.ErrNone, "trunc /f/x 0", api.ErrNotDir, "trunc /d 0", api.ErrIsDir, fmt.Sprint("trunc / ", math.MaxInt), api.ErrIsDir, fmt.Sprint("trunc /f ", api.MaxSize+1), api.ErrBig, fmt.Sprint("trunc /f ", math.MaxInt), api.ErrBig)
	blocks := func() []int { return slices.Sorted(maps.Keys(x.root.slots[0].node.blocks)) }
	for _, c := range []struct {
		n    int
		want []int
	}{{3000, []int{0, 1, 2}}, {2049, []int{0, 1, 2}}, {2048, []int{0, 1}}, {api.MaxSize, []int{0, 1}}, {1500, []int{0, 1}}, {1025, []int{0, 1}}, {1024, []int{0}}, {7, []int{0}}, {1, []int{0}}, {0, nil}, {9, nil}} {
		expect(t, x, fmt.Sprint("trunc /f ", c.n), "ok", "stat /f", fmt.Sprint("file ", c.n, " 1"))
		if got := blocks(); !slices.Equal(got, c.want) {
			t.Errorf("cut to %d: %v, not %v", c.n, got, c.want)
		}
	}
}

func TestTruncLeavesZerosBehindTheSize(t *testing.T) {
	x := New(wide())
	play(t, x, "create /f", "write /f 0 "+strings.Repeat("ff", 2048), "trunc /f 1026")
	for i, b := range x.Nodes()[1].Blocks[1].Data {
		if i < 2 && b != 255 || i >= 2 && b != 0 {
			t.Errorf("byte %d: %d", i, b)
		}
	}
	expect(t, x, "trunc /f 1030", "ok", "read /f 1024 9", "data ffff00000000", "trunc /f 1025", "ok", "write /f 1028 0a", "wrote 1", "read /f 1023 9", "data ffff0000000a")
}

func TestStatListAndSyncs(t *testing.T) {
	x := New(wide())
	play(t, x, "create /f", "mkdir /d", "write /f 5 41", "link /f /d/g")
	was := x.Nodes()
	expect(t, x, "stat /f", "file 6 2", "stat /", "dir 1024 3", "list /", "names f d", "list /d", "names g", "fsync /f", "ok", "fsync /d", "ok", "fsync /", "ok", "sync", "ok")
	refused(t, x, "list /f", api.ErrNotDir, "list /no", api.ErrNone, "list x", api.ErrName, "fsync /no", api.ErrNone, "fsync x", api.ErrName)
	if !walk.Same(was, x.Nodes()) {
		t.Error("changed something")
	}
}

func TestAnotherKind(t *testing.T) {
	x := New(wide())
	for _, kind := range []int{0, -1, 14, 15, 1 << 32, 1<<32 + 1, math.MaxInt, math.MinInt} {
		if r := x.Do(api.Call{Kind: kind, Path: "/f", N: 1}); r.Err != api.ErrArg {
			t.Errorf("%d: %v", kind, r)
		}
	}
	if len(x.Nodes()) != 1 {
		t.Error("changed something")
	}
}

// P1004

func TestUsedCountsIndirectBlocks(t *testing.T) {
	x := New(wide())
	play(t, x, "create /f")
	for _, c := range []struct {
		line string
		want int
	}{
		{"write /f 0 41", 2}, {"write /f 8191 41", 3}, {"write /f 8192 41", 5}, {"write /f 270335 41", 6}, {"write /f 270336 41", 9}, {"write /f 532479 41", 10}, {"write /f 532480 41", 12}, {"trunc /f 532480", 10},
		{"trunc /f 270337", 9}, {"trunc /f 270336", 6}, {"trunc /f 8192", 3}, {"write /f 8191 4141", 5}, {"trunc /f 0", 1},
	} {
		play(t, x, c.line)
		if i, b := x.Used(); i != 2 || b != c.want {
			t.Errorf("%s: %d, %d used, not %d", c.line, i, b, c.want)
		}
	}
}

func TestUsedOfADirectoryWithManyBlocks(t *testing.T) {
	x := New(wide())
	play(t, x, "create /f", "mkdir /d")
	for i := range 255 {
		if i == 254 {
			if _, b := x.Used(); b != 1+8 {
				t.Errorf("%d blocks used", b)
			}
		}
		play(t, x, fmt.Sprint("link /f /d/", i))
	}
	expect(t, x, "stat /d", "dir 9216 2")
	if _, b := x.Used(); b != 1+9+1 {
		t.Errorf("%d blocks used", b)
	}
}

func TestNoRoomForInodes(t *testing.T) {
	x := New(api.Geometry{Groups: 1, Inodes: 1, Data: 20})
	for i := range 15 {
		play(t, x, fmt.Sprint("create /", i))
	}
	refused(t, x, "create /x", api.ErrSpace, "mkdir /x", api.ErrSpace, "create /1", api.ErrExists, "create /1/x", api.ErrNotDir)
	expect(t, x, "link /1 /x", "ok", "rename /2 /y", "ok", "unlink /x", "ok", "create /x", "error 16", "rename /y /1", "ok", "mkdir /x", "ok", "create /z", "error 16")
}

func TestNoRoomForBlocks(t *testing.T) {
	g := api.Geometry{Groups: 1, Inodes: 4, Data: 8}
	x := New(g)
	play(t, x, "create /f", "write /f 0 "+strings.Repeat("41", 6*1024)) // one block is left
	refused(t, x, "write /f 8191 4141", api.ErrSpace, "write /f 8192 41", api.ErrSpace, "write /f 270336 41", api.ErrSpace, "write /f 6143 "+strings.Repeat("41", 1026), api.ErrSpace)
	expect(t, x, "write /f 6144 41", "wrote 1", "write /f 6145 41", "wrote 1", "write /f 7167 41", "wrote 1", "write /f 7168 41", "error 16", "mkdir /d", "error 16", "create /g", "ok", "write /g 0 41", "error 16", "write /g 9000 -", "wrote 0", "trunc /g 9000", "ok", "write /g 0 41", "error 16")
	expect(t, x, "trunc /f 6144", "ok", "mkdir /d", "ok", "mkdir /e", "error 16", "rmdir /d", "ok", "write /g 8000 41", "wrote 1")
}

func TestNoRoomForSlots(t *testing.T) {
	full := func(more int) *Tree {
		x := New(api.Geometry{Groups: 1, Inodes: 1, Data: 8})
		play(t, x, "mkdir /d", "create /d/f", "mkdir /d/e")
		for i := range 29 {
			play(t, x, fmt.Sprint("link /d/f /", i))
		}
		play(t, x, "write /d/f 0 "+strings.Repeat("41", (5-more)*1024)) // the root and d, e have three; more blocks are left
		return x
	}
	refused(t, full(0), "create /x", api.ErrSpace, "link /d/f /x", api.ErrSpace, "rename /1 /x", api.ErrSpace, "rename /d/f /x", api.ErrSpace, "rename /d/e /x", api.ErrSpace, "mkdir /x", api.ErrSpace, "mkdir /d/x", api.ErrSpace)
	expect(t, full(0), "create /d/x", "ok", "link /d/f /d/y", "ok", "rename /1 /2", "ok", "rename /1 /d/z", "ok", "rename /d/e /d/u", "ok", "create /x", "ok")
	refused(t, full(1), "mkdir /x", api.ErrSpace)
	for _, line := range []string{"create /x", "link /d/f /x", "rename /1 /x", "rename /d/f /x", "rename /d/e /x", "mkdir /d/x"} {
		x := full(1)
		expect(t, x, line, "ok")
		if _, b := x.Used(); b != 8 {
			t.Errorf("%s: %d blocks used", line, b)
		}
	}
	expect(t, full(2), "mkdir /x", "ok")
}

func TestUsedIsCountedRight(t *testing.T) {
	for seed := range 30 {
		g := api.Geometry{Groups: 1, Inodes: 1, Data: 8 + seed}
		x := New(g)
		for k, c := range drawn(uint32(seed), 400) {
			was := x.Nodes()
			r := x.Do(c)
			if r.Err != api.OK && !walk.Same(was, x.Nodes()) {
				t.Fatalf("seed %d, call %d: %v is refused, and changes something", seed, k, c)
			}
			i, b := x.Used()
			if wi, wb := used(x); i != wi || b != wb {
				t.Fatalf("seed %d, call %d: %d, %d used, not %d, %d", seed, k, i, b, wi, wb)
			}
			if i > geom.Inodes(g) || b > geom.Blocks(g) {
				t.Fatalf("seed %d, call %d: %d, %d used", seed, k, i, b)
			}
			wellMade(t, x)
		}
	}
}

// drawn are calls of all kinds on few names.
func drawn(seed uint32, n int) []api.Call {
	next := func(n int) int { seed = seed*1664525 + 1013904223; return int(seed>>8) % n }
	path := func() string {
		s := ""
		for range next(3) + 1 {
			s += "/" + string(rune('a'+next(4)))
		}
		return s
	}
	var out []api.Call
	for range n {
		out = append(out, api.Call{Kind: next(13) + 1, Path: path(), To: path(), Off: next(300) * 1000, N: next(20000), Data: bytes.Repeat([]byte{byte(next(256))}, next(3000))})
	}
	return out
}

// wellMade looks for what holds of every tree.
func wellMade(t *testing.T, x *Tree) {
	t.Helper()
	l := x.Nodes()
	links := map[int]int{1: 2}
	for _, n := range l {
		if n.Kind == api.Dir && len(n.Slots) != n.Size/api.Block*api.PerDir-2 {
			t.Fatalf("%d slots of %d bytes", len(n.Slots), n.Size)
		}
		names := map[string]int{}
		for _, e := range n.Slots {
			if (e.Ino == 0) != (e.Name == "") {
				t.Fatalf("slot %v", e)
			}
			if e.Ino == 0 {
				continue
			}
			if names[e.Name]++; names[e.Name] > 1 {
				t.Fatalf("%s stands twice", e.Name)
			}
			links[e.Ino]++
			if l[e.Ino-1].Kind == api.Dir {
				links[e.Ino]++ // its own dot
				links[n.Ino]++
			}
		}
	}
	for _, n := range l {
		if n.Links != links[n.Ino] {
			t.Fatalf("node %d: %d links, not %d", n.Ino, n.Links, links[n.Ino])
		}
		for _, p := range n.Blocks {
			if p.At >= bmap.Count(n.Size) {
				t.Fatalf("node %d of %d bytes has block %d", n.Ino, n.Size, p.At)
			}
		}
	}
}

// P1005

func TestWhatAKindDoesNotNameIsNotLookedAt(t *testing.T) {
	odd := api.Call{Path: "no path", To: "none either", Off: -5, N: math.MaxInt, Data: make([]byte, 9000)}
	for kind, fields := range map[int]string{
		api.CCreate: "P", api.CMkdir: "P", api.CLink: "PT", api.CUnlink: "P", api.CRmdir: "P", api.CRename: "PT", api.CRead: "PON", api.CWrite: "POD", api.CTrunc: "PN", api.CStat: "P", api.CList: "P", api.CFsync: "P", api.CSync: "",
	} {
		for _, paths := range [][2]string{{"/f", "/new"}, {"/d", "/new"}, {"/new", "/f"}, {"/e", "/new"}, {"/f", "/g"}, {"/", "/"}} {
			plain := api.Call{Kind: kind}
			full := odd
			full.Kind = kind
			for _, field := range fields {
				switch field {
				case 'P':
					plain.Path, full.Path = paths[0], paths[0]
				case 'T':
					plain.To, full.To = paths[1], paths[1]
				case 'O':
					plain.Off, full.Off = 1, 1
				case 'N':
					plain.N, full.N = 2, 2
				case 'D':
					plain.Data, full.Data = []byte("xyz"), []byte("xyz")
				}
			}
			a := New(wide())
			play(t, a, "create /f", "write /f 0 414243", "mkdir /d", "create /d/x", "mkdir /e", "create /g")
			b := a.Copy()
			ra, rb := a.Do(plain), b.Do(full)
			if fmt.Sprint(ra) != fmt.Sprint(rb) || !walk.Same(a.Nodes(), b.Nodes()) {
				t.Errorf("%v: %v; with all fields: %v", plain, ra, rb)
			}
			onlyItsOwn(t, kind, ra)
		}
	}
}

// onlyItsOwn looks whether a result has nothing but what its Kind tells.
func onlyItsOwn(t *testing.T, kind int, r api.Result) {
	t.Helper()
	if r.Err == api.OK {
		switch kind {
		case api.CRead:
			r.Data = nil
		case api.CWrite:
			r.N = 0
		case api.CStat:
			r.Kind, r.Size, r.Links = 0, 0, 0
		case api.CList:
			r.Names = nil
		}
	}
	r.Err = api.OK
	if len(r.Data) > 0 || len(r.Names) > 0 || r.N != 0 || r.Kind != 0 || r.Size != 0 || r.Links != 0 {
		t.Errorf("kind %d: %v too much", kind, r)
	}
}

func TestCopyIsATreeOfItsOwn(t *testing.T) {
	for seed := range 20 {
		a := New(api.Geometry{Groups: 1, Inodes: 2, Data: 60})
		for _, c := range drawn(uint32(seed), 150) {
			a.Do(c)
		}
		was := a.Nodes()
		b := a.Copy()
		if !walk.Same(was, b.Nodes()) {
			t.Fatal("not the same")
		}
		twin := a.Copy()
		for _, c := range drawn(uint32(seed+1000), 150) {
			b.Do(c)
		}
		if !walk.Same(was, a.Nodes()) {
			t.Fatal("what is done to a copy is done to the tree")
		}
		late := b.Nodes()
		for _, c := range drawn(uint32(seed+2000), 150) {
			a.Do(c)
		}
		if !walk.Same(late, b.Nodes()) {
			t.Fatal("what is done to a tree is done to the copy")
		}
		for _, c := range drawn(uint32(seed+1000), 150) {
			twin.Do(c)
		}
		if !walk.Same(late, twin.Nodes()) {
			t.Fatal("a copy goes on otherwise")
		}
		ai, ab := twin.Used()
		if wi, wb := used(twin); ai != wi || ab != wb {
			t.Fatalf("%d, %d used, not %d, %d", ai, ab, wi, wb)
		}
	}
}

func TestCopyOfLinkedFiles(t *testing.T) {
	a := New(wide())
	play(t, a, "create /f", "link /f /g", "mkdir /d", "link /f /d/h", "write /f 0 41")
	b := a.Copy()
	play(t, b, "write /d/h 0 42")
	expect(t, b, "read /f 0 1", "data 42", "read /g 0 1", "data 42")
	expect(t, a, "read /f 0 1", "data 41", "read /d/h 0 1", "data 41")
}

func TestWhatIsHandedInIsNotKept(t *testing.T) {
	x := New(wide())
	play(t, x, "create /f")
	whole := bytes.Repeat([]byte{7}, 3000)
	data := whole[:2000:2500]
	x.Do(api.Call{Kind: api.CWrite, Path: "/f", Off: 10, Data: data})
	for i, b := range whole {
		if b != 7 {
			t.Fatalf("byte %d is %d", i, b)
		}
	}
	clear(whole)
	if got := x.Do(api.Call{Kind: api.CRead, Path: "/f", Off: 10, N: 2000}).Data; !bytes.Equal(got, bytes.Repeat([]byte{7}, 2000)) {
		t.Error("the bytes handed in are kept")
	}
}

func TestWhatIsAnsweredIsNewMemory(t *testing.T) {
	x := New(wide())
	play(t, x, "create /f", "mkdir /d", "write /f 0 "+strings.Repeat("41", 2000))
	was := x.Nodes()
	read, list := api.Call{Kind: api.CRead, Path: "/f", N: 2000}, api.Call{Kind: api.CList, Path: "/"}
	clear(x.Do(read).Data)
	clear(x.Do(list).Names)
	l := x.Nodes()
	for _, n := range l {
		for _, p := range n.Blocks {
			clear(p.Data[:cap(p.Data)])
		}
		clear(n.Blocks[:cap(n.Blocks)])
		clear(n.Slots[:cap(n.Slots)])
	}
	clear(l)
	if !walk.Same(was, x.Nodes()) {
		t.Error("what was answered is the tree's own")
	}
}

func TestTheSameCallsAnswerTheSame(t *testing.T) {
	for seed := range 10 {
		var told []string
		for range 3 {
			x := New(api.Geometry{Groups: 1, Inodes: 1, Data: 30})
			s := ""
			for _, c := range drawn(uint32(seed), 200) {
				s += calls.Show(c.Kind, x.Do(c)) + "\n"
			}
			told = append(told, s+fmt.Sprint(x.Nodes()))
		}
		if told[0] != told[1] || told[1] != told[2] {
			t.Errorf("seed %d: told otherwise", seed)
		}
	}
}

// Of, beside the chapter's calls.

// TestOfGoesOn: the tree that was made of another's nodes answers as that one does from there on.
func TestOfGoesOn(t *testing.T) {
	g := api.Geometry{Groups: 1, Inodes: 1, Data: 30}
	for seed := range 20 {
		x := New(g)
		for _, c := range drawn(uint32(seed), 100) {
			x.Do(c)
		}
		_, taken := x.Used()
		y := Of(g, otherwise(x.Nodes()), taken)
		for _, c := range drawn(uint32(seed+1000), 200) {
			if want, got := calls.Show(c.Kind, x.Do(c)), calls.Show(c.Kind, y.Do(c)); got != want {
				t.Fatalf("seed %d: %v: %s, not %s", seed, c, got, want)
			}
		}
		wellMade(t, y)
		if !walk.Same(y.Nodes(), x.Nodes()) {
			t.Errorf("seed %d: the trees are not one", seed)
		}
	}
}

// otherwise is the same tree with other numbers, in another order.
func otherwise(l []api.Node) []api.Node {
	number := func(n int) int {
		if n > 1 {
			return 1000 - 7*n
		}
		return n
	}
	for k := range l {
		l[k].Ino = number(l[k].Ino)
		for at := range l[k].Slots {
			l[k].Slots[at].Ino = number(l[k].Slots[at].Ino)
		}
	}
	slices.Reverse(l)
	return l
}

// TestOfRoom: what is taken counts, whatever the nodes need.
func TestOfRoom(t *testing.T) {
	g := api.Geometry{Groups: 1, Inodes: 1, Data: 10}
	for taken := 2; taken <= 10; taken++ {
		x := New(g)
		play(t, x, "mkdir /d")
		y := Of(g, x.Nodes(), taken)
		if inodes, blocks := y.Used(); inodes != 2 || blocks != taken {
			t.Errorf("%d, %d used", inodes, blocks)
		}
		for range 10 - taken {
			play(t, y, fmt.Sprint("mkdir /", len(y.Nodes())))
		}
		refused(t, y, "mkdir /x", api.ErrSpace)
		play(t, y, "create /x", "rmdir /d", "mkdir /d")
	}
}

func TestOfKeepsNothing(t *testing.T) {
	x := New(wide())
	play(t, x, "mkdir /d", "create /d/f", "write /d/f 0 4142")
	l := x.Nodes()
	y := Of(wide(), l, 5)
	clear(l[2].Blocks[0].Data)
	clear(l[0].Slots)
	expect(t, y, "read /d/f 0 9", "data 4142", "write /d/f 0 43", "wrote 1", "list /", "names d")
	if l[2].Blocks[0].Data[0] != 0 {
		t.Error("what was handed in is changed")
	}
}
