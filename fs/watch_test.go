package fs

import (
	"bytes"
	"maps"
	"math/rand"
	"slices"
	"strings"
	"testing"

	"lockgate/api"
	"lockgate/bits"
	"lockgate/calls"
	"lockgate/crash"
	"lockgate/dinode"
	"lockgate/disk"
	"lockgate/fsck"
	"lockgate/geom"
	"lockgate/mkfs"
	"lockgate/reader"
	"lockgate/rules"
	"lockgate/scan"
	"lockgate/super"
	"lockgate/tree"
	"lockgate/walk"
)

// watched is a file system with the tree of the same calls beside it, and all that a crash may leave of it.
type watched struct {
	t     *testing.T
	g     api.Geometry
	d     *disk.Disk
	f     *FS
	tree  *tree.Tree
	image []byte // the disk behind the sectors that were looked at
	seen  int    // how many of the log these are
	now   []api.Node
	crash *crash.Watch
	since since
	safe  []safe
	fixed bool // it was repaired: there may be more room taken than is used
}

// spoil puts a number of a block, of an inode or of anything somewhere into bytes.
func spoil(draw *rand.Rand, b []byte, g api.Geometry) {
	at := draw.Intn(len(b)/4) * 4
	n := []int{draw.Intn(geom.Total(g)), draw.Intn(geom.Inodes(g) + 2), draw.Intn(70000) * 1024, draw.Intn(1 << 30), 0, 0x10002}[draw.Intn(6)]
	copy(b[at:], []byte{byte(n), byte(n >> 8), byte(n >> 16), byte(n >> 24)})
}

// since is what was so behind each call since the last sync.
type since struct {
	kinds map[int]int              // of the inodes that were there all the time
	nodes map[int]api.Node         // those that no call has changed, nor their names
	parts map[place]string         // the blocks that no call has changed
	sizes map[int]map[int]struct{} // of each inode all that it had
}

type place struct{ ino, at int }

// safe is what a path led to when it was fsynced.
type safe struct {
	path  string
	on    []int // the inodes on the way
	node  api.Node
	names []api.Entry // all that it has: a file that is renamed may be found by two
}

func watch(t *testing.T, g api.Geometry) *watched {
	t.Helper()
	image, err := mkfs.Image(g)
	if err != api.OK {
		t.Fatal(err)
	}
	d := disk.Of(image)
	f, err := Mount(d)
	if err != api.OK {
		t.Fatal(err)
	}
	w := &watched{t: t, g: g, d: d, f: f, tree: tree.New(g), image: image}
	w.begin()
	return w
}

// repaired is the file system that a repair makes of the disk, if some places on it are spoilt.
func (w *watched) repaired(draw *rand.Rand, places int) *watched {
	w.t.Helper()
	image := w.d.Image()
	for range places {
		if n, ok := geom.DataOf(w.g, draw.Intn(geom.Total(w.g))); ok {
			block, _ := geom.Data(w.g, n)
			spoil(draw, image[block*1024:(block+1)*1024], w.g)
		}
		block, at, _ := geom.InodeAt(w.g, 1+draw.Intn(geom.Inodes(w.g)))
		spoil(draw, image[block*1024+at:][:64], w.g)
	}
	image, _, _ = fsck.Repair(image)
	d := disk.Of(image)
	f, err := Mount(d)
	if err != api.OK {
		w.t.Fatal(err)
	}
	out := &watched{t: w.t, g: w.g, d: d, f: f, tree: f.tree.Copy(), image: image, fixed: true}
	out.begin()
	return out
}

// begin looks at a file system of which nothing is left.
func (w *watched) begin() {
	w.t.Helper()
	raw, err := reader.Raw(w.f.image)
	if err != api.OK {
		w.t.Fatal(err)
	}
	w.now, w.crash = raw, crash.New(raw)
	w.sync()
	w.add()
}

// sync begins anew: what is now was all the time.
func (w *watched) sync() {
	w.since = since{map[int]int{}, map[int]api.Node{}, map[place]string{}, map[int]map[int]struct{}{}}
	for _, n := range w.now {
		w.since.kinds[n.Ino], w.since.nodes[n.Ino] = n.Kind, n
		w.since.sizes[n.Ino] = map[int]struct{}{n.Size: {}}
		for _, p := range n.Blocks {
			w.since.parts[place{n.Ino, p.At}] = string(p.Data)
		}
	}
}

// add looks at the file system as it will be: it must be wholly one, and the tree.
func (w *watched) add() {
	w.t.Helper()
	raw, err := reader.Raw(w.f.image)
	if err != api.OK || !walk.Same(walk.Renumber(raw), w.tree.Nodes()) || !walk.Same(w.f.Nodes(), w.tree.Nodes()) {
		w.t.Fatalf("it is not the tree: %d", err)
	}
	was := w.now
	w.now = raw
	w.tell(was)
	for ino, kind := range w.since.kinds {
		if n, ok := at(raw, ino); !ok || n.Kind != kind {
			delete(w.since.kinds, ino)
		}
	}
	maps.DeleteFunc(w.since.nodes, func(ino int, n api.Node) bool {
		now, ok := at(raw, ino)
		return !ok || !walk.Same([]api.Node{now}, []api.Node{n}) || !slices.Equal(named(raw, ino), named(was, ino))
	})
	maps.DeleteFunc(w.since.parts, func(k place, data string) bool {
		n, _ := at(raw, k.ino)
		return !slices.ContainsFunc(n.Blocks, func(p api.Part) bool { return p.At == k.at && string(p.Data) == data })
	})
	for _, n := range raw {
		if w.since.sizes[n.Ino] == nil {
			w.since.sizes[n.Ino] = map[int]struct{}{}
		}
		w.since.sizes[n.Ino][n.Size] = struct{}{}
	}
	w.safe = slices.DeleteFunc(w.safe, func(s safe) bool {
		on, n, ok := lead(raw, s.path)
		return !ok || !slices.Equal(on, s.on) || !walk.Same([]api.Node{s.node}, []api.Node{n}) || !slices.Equal(named(raw, n.Ino), s.names)
	})
}

// tell tells the crash.Watch what is other than it was.
func (w *watched) tell(was []api.Node) {
	before, after := entries(was), entries(w.now)
	for k := range before {
		if after[k] == 0 {
			w.crash.Entry(k.dir, k.text, 0)
		}
	}
	for k, ino := range after {
		if before[k] != ino {
			w.crash.Entry(k.dir, k.text, ino)
		}
	}
	for _, n := range w.now {
		for _, p := range n.Blocks {
			w.crash.Part(n.Ino, p.At, p.Data)
		}
	}
}

func entries(l []api.Node) map[name]int {
	out := map[name]int{}
	for _, n := range l {
		for _, e := range n.Slots {
			if e.Ino != 0 {
				out[name{n.Ino, e.Name}] = e.Ino
			}
		}
	}
	return out
}

// lead tells the inodes on the way to a path's node, and that node.
func lead(l []api.Node, path string) ([]int, api.Node, bool) {
	var on []int
	for k := range path {
		if path[k] == '/' && k > 0 {
			if at, err := walk.Find(l, path[:k]); err == api.OK {
				on = append(on, l[at].Ino)
			}
		}
	}
	at, err := walk.Find(l, path)
	if err != api.OK {
		return nil, api.Node{}, false
	}
	return append(on, l[at].Ino), l[at], true
}

// do does a call, which must answer what the tree does.
func (w *watched) do(c api.Call) api.Result {
	w.t.Helper()
	got, want := w.f.Do(c), w.tree.Do(c)
	if !same(got, want) {
		w.t.Fatalf("%+v: %+v, not %+v", c, got, want)
	}
	if c.Kind != api.CFsync && c.Kind != api.CSync && w.seen != len(w.d.Log()) {
		w.t.Fatalf("%+v writes", c)
	}
	w.add()
	if on, n, ok := lead(w.now, c.Path); c.Kind == api.CFsync && ok {
		w.moments()
		w.safe = append(w.safe, safe{c.Path, on, n, named(w.now, n.Ino)})
		w.found(w.image)
	}
	w.moments()
	if c.Kind == api.CSync {
		w.synced()
	}
	return got
}

func same(a, b api.Result) bool {
	return a.Err == b.Err && a.Kind == b.Kind && a.Size == b.Size && a.Links == b.Links && a.N == b.N &&
		bytes.Equal(a.Data, b.Data) && slices.Equal(a.Names, b.Names)
}

// synced looks at a disk to which nothing is to be written.
func (w *watched) synced() {
	w.t.Helper()
	image := w.d.Image()
	nodes, err := reader.Nodes(image)
	if w.f.Left() != 0 || w.f.Step() || err != api.OK || !scan.Clean(image) || !walk.Same(nodes, w.tree.Nodes()) {
		w.t.Fatalf("the disk is not the tree: %d", err)
	}
	if _, blocks := w.tree.Used(); marked(w.g, image) != blocks && !w.fixed {
		w.t.Fatalf("%d blocks are marked, %d used", marked(w.g, image), blocks)
	}
	inodes, blocks := w.f.idle.Free()
	if i, b := w.f.room.Free(); inodes != i || blocks != b {
		w.t.Fatalf("%d inodes, %d blocks are idle, %d, %d free", inodes, blocks, i, b)
	}
	w.crash.Synced()
	w.sync()
}

// marked is how many data blocks are marked.
func marked(g api.Geometry, image []byte) int {
	out := 0
	for group := range g.Groups {
		head, _ := geom.Head(g, group)
		_, data := super.Bits(g, image[head*1024:(head+1)*1024])
		out += bits.Count(data, g.Data)
	}
	return out
}

// step writes one block, whichever may be written: not only that which Step would take. Now and then the power fails within it.
func (w *watched) step(draw *rand.Rand) {
	w.t.Helper()
	left, log := w.f.Left(), len(w.d.Log())
	if left == 0 {
		return
	}
	ready := w.f.graph.Ready()
	if draw.Intn(4) == 0 {
		w.d.Cut(1)
		if w.f.bring(ready[draw.Intn(len(ready))]) || !w.d.Dead() || w.f.Step() || w.f.Left() != left {
			w.t.Fatal("it goes on without power")
		}
		w.moments()
		w.d.Start()
		return
	}
	if draw.Intn(2) == 0 {
		if !w.f.Step() {
			w.t.Fatal("it is stuck")
		}
	} else if !w.f.bring(ready[draw.Intn(len(ready))]) {
		w.t.Fatal("what is ready is not")
	}
	if w.f.Left() >= left || len(w.d.Log()) != log+2 {
		w.t.Fatalf("left %d, then %d; %d sectors", left, w.f.Left(), len(w.d.Log())-log)
	}
	w.moments()
}

// moments looks at the disk behind each sector that was written since.
func (w *watched) moments() {
	w.t.Helper()
	log := w.d.Log()
	if w.seen == len(log) {
		return
	}
	for _, s := range log[w.seen:] {
		copy(w.image[s.Sector*api.Sector:], s.Data)
		w.seen++
		w.moment(w.image)
	}
	if !bytes.Equal(w.image, w.d.Image()) {
		w.t.Fatal("the disk is not what its log says")
	}
}

// might looks at the disk as it would be with just these of the changes that are left.
func (w *watched) might(there []int) []api.Node {
	w.t.Helper()
	image := bytes.Clone(w.f.image)
	for block, l := range w.f.left {
		for _, c := range slices.Backward(l) {
			if !among(there, c.id) {
				c.undo(image[block*1024 : (block+1)*1024])
			}
		}
	}
	return w.moment(image)
}

// some looks at disks with some of the changes that are left, and what these hang on, but with nothing else.
func (w *watched) some(draw *rand.Rand) {
	w.t.Helper()
	all := w.left()
	if len(all) == 0 {
		return
	}
	for range 3 {
		var l []int
		for range 1 + draw.Intn(3) {
			l = append(l, all[draw.Intn(len(all))])
		}
		w.might(w.f.graph.Need(l))
	}
}

// each looks, for each change that is left, at a disk with it and what it hangs on, but with nothing else; and at one with all but it and what hangs on it.
func (w *watched) each() {
	w.t.Helper()
	all := w.left()
	under := map[int][]int{}
	for _, id := range all {
		under[id] = w.f.graph.Need([]int{id})
		w.might(under[id])
	}
	for _, id := range all {
		w.might(slices.DeleteFunc(slices.Clone(all), func(other int) bool { return among(under[other], id) }))
	}
}

// left are all changes that are left.
func (w *watched) left() []int {
	var out []int
	for _, l := range w.f.left {
		out = append(out, numbers(l)...)
	}
	slices.Sort(out)
	return out
}

// moment looks at a disk as it is, or might be, at a moment, and tells what a repair makes of it.
func (w *watched) moment(image []byte) []api.Node {
	w.t.Helper()
	if rule := rules.Check(image); rule != 0 {
		w.t.Fatalf("behind %d sectors: rule %d", w.seen, rule)
	}
	w.marks(image)
	return w.found(image)
}

// marks looks at the inodes on the disk: each is one, and those that are reached are marked.
func (w *watched) marks(image []byte) {
	w.t.Helper()
	for n := range geom.Inodes(w.g) {
		block, at, _ := geom.InodeAt(w.g, 1+n)
		if _, err := dinode.Read(image[block*1024+at:][:64]); err != api.OK {
			w.t.Fatalf("inode %d is none", 1+n)
		}
	}
	for _, ino := range rules.Reached(image) {
		group, n, _ := geom.Group(w.g, ino)
		head, _ := geom.Head(w.g, group)
		if inodes, _ := super.Bits(w.g, image[head*1024:(head+1)*1024]); !bits.Get(inodes, n) {
			w.t.Fatalf("inode %d is not marked", ino)
		}
	}
}

// found looks at what a repair makes of a disk.
func (w *watched) found(image []byte) []api.Node {
	w.t.Helper()
	fixed, _, _ := fsck.Repair(image)
	found, err := reader.Raw(fixed)
	if err != api.OK {
		w.t.Fatal(err)
	}
	if !w.crash.Ok(found) {
		w.t.Fatal("what is found was never so")
	}
	for ino, kind := range w.since.kinds {
		if n, ok := at(found, ino); !ok || n.Kind != kind {
			w.t.Fatalf("inode %d is lost", ino)
		}
	}
	for ino, was := range w.since.nodes {
		if n, _ := at(found, ino); !walk.Same([]api.Node{was}, []api.Node{n}) {
			w.t.Fatalf("inode %d was not changed, but is", ino)
		}
	}
	for k, data := range w.since.parts {
		n, _ := at(found, k.ino)
		if !slices.ContainsFunc(n.Blocks, func(p api.Part) bool { return p.At == k.at && string(p.Data) == data }) {
			w.t.Fatalf("block %d of inode %d was not changed, but is", k.at, k.ino)
		}
	}
	for _, n := range found {
		if _, ok := w.since.sizes[n.Ino][n.Size]; !ok && n.Kind == api.File {
			w.t.Fatalf("inode %d never had %d bytes", n.Ino, n.Size)
		}
	}
	for _, s := range w.safe {
		if on, n, ok := lead(found, s.path); !ok || !slices.Equal(on, s.on) || !walk.Same([]api.Node{s.node}, []api.Node{n}) {
			w.t.Fatalf("%s was fsynced, and is not what it was: %v, %+v, %+v", s.path, ok, n, s.node)
		}
	}
	return found
}

// named are the names of an inode, each with the directory in which it stands.
func named(l []api.Node, ino int) []api.Entry {
	var out []api.Entry
	for _, n := range l {
		for _, e := range n.Slots {
			if e.Ino == ino {
				out = append(out, api.Entry{Ino: n.Ino, Name: e.Name})
			}
		}
	}
	return out
}

func at(l []api.Node, ino int) (api.Node, bool) {
	for _, n := range l {
		if n.Ino == ino {
			return n, true
		}
	}
	return api.Node{}, false
}

// play does calls, each a line of words, and tells their results' lines.
func (w *watched) play(lines ...string) string {
	w.t.Helper()
	var out []string
	for _, s := range lines {
		c, err := calls.Read(s)
		if err != api.OK {
			w.t.Fatalf("no call: %q", s)
		}
		out = append(out, calls.Show(c.Kind, w.do(c)))
	}
	return strings.Join(out, "; ")
}

// must does calls that must all be taken.
func (w *watched) must(lines ...string) {
	w.t.Helper()
	for _, s := range lines {
		if got := w.play(s); strings.HasPrefix(got, "error") {
			w.t.Fatalf("%s: %s", s, got)
		}
	}
}

// look does calls that must all be taken, and looks at all that the disk might be behind each.
func (w *watched) look(lines ...string) {
	w.t.Helper()
	for _, s := range lines {
		w.must(s)
		w.each()
	}
}

// fill does a call for so many names of a directory, which stand behind what there is of the call.
func (w *watched) fill(call, dir string, n int) {
	w.t.Helper()
	for k := range n {
		w.must(call + " " + dir + "/" + string(rune('a'+k%26)) + string(rune('a'+k/26)))
	}
}
