package fs

import (
	"bytes"
	"slices"
	"testing"

	"lockgate/api"
	"lockgate/dinode"
	"lockgate/disk"
	"lockgate/fsck"
	"lockgate/geom"
	"lockgate/mkfs"
	"lockgate/reader"
	"lockgate/rules"
	"lockgate/scan"
	"lockgate/tree"
	"lockgate/walk"
)

// watched is a file system with the tree of the same calls beside it, and all that it was since the last sync.
type watched struct {
	t      *testing.T
	g      api.Geometry
	d      *disk.Disk
	f      *FS
	tree   *tree.Tree
	image  []byte // the disk behind the sectors that were looked at
	seen   int    // how many of the log these are
	states [][]api.Node
	parts  map[partKey]struct{}
}

// partKey is bytes that a file's block had.
type partKey struct {
	ino, at int
	data    string
}

func watch(t *testing.T, g api.Geometry) *watched {
	t.Helper()
	image, err := mkfs.Image(g)
	if err != api.OK {
		t.Fatal(err)
	}
	d := disk.Of(image)
	f, err := Mount(d)
	if err != api.OK {
		t.Fatal(err)
	}
	w := &watched{t: t, g: g, d: d, f: f, tree: tree.New(g), image: image, parts: map[partKey]struct{}{}}
	w.add()
	return w
}

// add looks at the file system as it will be: it must be wholly one, and the tree.
func (w *watched) add() {
	w.t.Helper()
	raw, err := reader.Raw(w.f.image)
	if err != api.OK || !walk.Same(walk.Renumber(raw), w.tree.Nodes()) || !walk.Same(w.f.Nodes(), w.tree.Nodes()) {
		w.t.Fatalf("it is not the tree: %d", err)
	}
	w.states = append(w.states, raw)
	for _, n := range raw {
		for _, p := range n.Blocks {
			w.parts[partKey{n.Ino, p.At, string(p.Data)}] = struct{}{}
		}
	}
}

// do does a call, which must answer what the tree does.
func (w *watched) do(c api.Call) api.Result {
	w.t.Helper()
	got, want := w.f.Do(c), w.tree.Do(c)
	if !same(got, want) {
		w.t.Fatalf("%+v: %+v, not %+v", c, got, want)
	}
	w.add()
	w.moments()
	if c.Kind == api.CSync {
		w.synced()
	}
	return got
}

func same(a, b api.Result) bool {
	return a.Err == b.Err && a.Kind == b.Kind && a.Size == b.Size && a.Links == b.Links && a.N == b.N &&
		bytes.Equal(a.Data, b.Data) && slices.Equal(a.Names, b.Names)
}

// synced looks at a disk to which nothing is to be written.
func (w *watched) synced() {
	w.t.Helper()
	nodes, err := reader.Nodes(w.d.Image())
	if w.f.Left() != 0 || w.f.Step() || err != api.OK || !walk.Same(nodes, w.tree.Nodes()) {
		w.t.Fatalf("the disk is not the tree: %d", err)
	}
	_, blocks := w.tree.Used()
	if _, free := w.f.room.Free(); free != geom.Blocks(w.g)-blocks {
		w.t.Fatalf("%d blocks are free, %d used", free, blocks)
	}
	w.states = w.states[len(w.states)-1:]
}

// moments looks at the disk behind each sector that was written since.
func (w *watched) moments() {
	w.t.Helper()
	for _, s := range w.d.Log()[w.seen:] {
		copy(w.image[s.Sector*api.Sector:], s.Data)
		w.seen++
		if rule := rules.Check(w.image); rule != 0 {
			w.t.Fatalf("behind sector %d: rule %d", s.Sector, rule)
		}
		for n := range geom.Inodes(w.g) {
			block, at, _ := geom.InodeAt(w.g, 1+n)
			if _, err := dinode.Read(w.image[block*1024+at:][:64]); err != api.OK {
				w.t.Fatalf("behind sector %d: inode %d", s.Sector, 1+n)
			}
		}
		w.crash()
	}
	if !bytes.Equal(w.image, w.d.Image()) {
		w.t.Fatal("the disk is not what its log says")
	}
}

// crash looks at what a repair would make of the disk now.
func (w *watched) crash() {
	w.t.Helper()
	fixed, _, _ := fsck.Repair(w.image)
	if !scan.Clean(fixed) {
		w.t.Fatal("not clean")
	}
	found, err := reader.Raw(fixed)
	if err != api.OK {
		w.t.Fatal(err)
	}
	byIno := map[int]api.Node{}
	for _, n := range found {
		byIno[n.Ino] = n
		w.node(n)
	}
	// What is there at all times is found, and as it was, if it was one way.
	for _, n := range w.states[0] {
		always, still := true, true
		for _, l := range w.states {
			now, ok := at(l, n.Ino)
			always = always && ok && now.Kind == n.Kind
			still = still && ok && walk.Same([]api.Node{now}, []api.Node{n}) && slices.Equal(named(l, n.Ino), named(w.states[0], n.Ino))
		}
		now, ok := byIno[n.Ino]
		if always && (!ok || now.Kind != n.Kind) {
			w.t.Fatalf("inode %d is lost", n.Ino)
		}
		if still && !walk.Same([]api.Node{now}, []api.Node{n}) {
			w.t.Fatalf("inode %d was not changed, but is", n.Ino)
		}
	}
}

// named are the names of an inode, each with the directory in which it stands.
func named(l []api.Node, ino int) []api.Entry {
	var out []api.Entry
	for _, n := range l {
		for _, e := range n.Slots {
			if e.Ino == ino {
				out = append(out, api.Entry{Ino: n.Ino, Name: e.Name})
			}
		}
	}
	return out
}

func at(l []api.Node, ino int) (api.Node, bool) {
	for _, n := range l {
		if n.Ino == ino {
			return n, true
		}
	}
	return api.Node{}, false
}

// node looks at a node that was found: its names, its size and its blocks are ones that it had.
func (w *watched) node(found api.Node) {
	w.t.Helper()
	size, named := false, map[string]map[int]int{} // by name what it named, and how often
	for _, l := range w.states {
		n, ok := at(l, found.Ino)
		size = size || ok && n.Size == found.Size
		for _, e := range n.Slots {
			if e.Ino != 0 {
				if named[e.Name] == nil {
					named[e.Name] = map[int]int{}
				}
				named[e.Name][e.Ino]++
			}
		}
	}
	if !size && found.Kind == api.File {
		w.t.Fatalf("inode %d never had %d bytes", found.Ino, found.Size)
	}
	names := map[string]int{}
	for _, e := range found.Slots {
		if e.Ino != 0 && named[e.Name][e.Ino] == 0 {
			w.t.Fatalf("in %d %s never named %d", found.Ino, e.Name, e.Ino)
		}
		names[e.Name] = e.Ino
	}
	for text, inos := range named {
		for ino, often := range inos {
			if often == len(w.states) && names[text] != ino {
				w.t.Fatalf("in %d %s is lost", found.Ino, text)
			}
		}
	}
	for _, p := range found.Blocks {
		if _, ok := w.parts[partKey{found.Ino, p.At, string(p.Data)}]; !ok && len(bytes.Trim(p.Data, "\x00")) > 0 {
			w.t.Fatalf("block %d of %d never was so", p.At, found.Ino)
		}
	}
}
