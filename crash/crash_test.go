package crash

import (
	"bytes"
	"math/rand"
	"slices"
	"testing"

	"lockgate/api"
)

// dir is a directory with these names, each ahead of what it names.
func dir(ino int, entries ...api.Entry) api.Node {
	return api.Node{Ino: ino, Kind: api.Dir, Slots: append([]api.Entry{{}}, entries...)}
}

func file(ino int, parts ...api.Part) api.Node {
	return api.Node{Ino: ino, Kind: api.File, Blocks: parts}
}

func to(name string, ino int) api.Entry { return api.Entry{Ino: ino, Name: name} }

// block is a whole block that begins with these bytes.
func block(s string) []byte { return append([]byte(s), make([]byte, 1024-len(s))...) }

// expect asks for what may be found, and for what may not.
func (w *Watch) expect(t *testing.T, what string, want bool, l ...api.Node) {
	t.Helper()
	if w.Ok(l) != want {
		t.Errorf("%s: %v", what, !want)
	}
}

// The chapter's example.
func TestExample(t *testing.T) {
	w := New([]api.Node{dir(1)})
	w.Entry(1, "a", 5)
	w.expect(t, "a root without names", true, dir(1))
	w.Synced()
	w.expect(t, "behind Synced", false, dir(1))
}

// P2501

func TestNew(t *testing.T) {
	w := New([]api.Node{dir(1, to("a", 2), to("d", 3)), file(2, api.Part{At: 7, Data: block("x")}), dir(3)})
	w.expect(t, "all", true, dir(1, to("a", 2), to("d", 3)), file(2, api.Part{At: 7, Data: block("x")}), dir(3))
	w.expect(t, "without a", false, dir(1, to("d", 3)), file(2), dir(3))
	w.expect(t, "without d", false, dir(1, to("a", 2)))
	w.expect(t, "another name", false, dir(1, to("a", 2), to("d", 3), to("b", 2)))
	w.expect(t, "another inode", false, dir(1, to("a", 3), to("d", 3)))
	w.expect(t, "other bytes", false, dir(1, to("a", 2), to("d", 3)), file(2, api.Part{At: 7, Data: block("y")}))
	w.expect(t, "another block", false, dir(1, to("a", 2), to("d", 3)), file(2, api.Part{At: 6, Data: block("x")}))
	none := New(nil)
	none.expect(t, "nothing", true)
	none.expect(t, "no names", true, dir(1), file(2, api.Part{At: 0, Data: block("")}))
	none.expect(t, "a name that was not told", false, dir(1, to("a", 2)))
}

func TestEntry(t *testing.T) {
	w := New([]api.Node{dir(1, to("a", 2))})
	w.Entry(1, "a", 3)
	w.Entry(1, "a", 0)
	w.Entry(1, "b", 4)
	w.Entry(1, "a", 5)
	for ino, want := range []bool{true, false, true, true, false, true} {
		w.expect(t, "a at some time", want, dir(1, to("a", ino)))
	}
	w.expect(t, "no b", true, dir(1, to("a", 2)))
	w.expect(t, "b", true, dir(1, to("b", 4)))
	w.expect(t, "b in another directory", false, dir(1), dir(2, to("b", 4)))
	w.expect(t, "b of a's", false, dir(1, to("b", 2)))
	w.Entry(-3, "", -1)
	w.expect(t, "odd numbers", true, dir(-3, to("", -1)))
}

func TestPart(t *testing.T) {
	w := New([]api.Node{dir(1), file(2, api.Part{At: 0, Data: block("old")})})
	w.Part(2, 0, []byte("new"))
	w.Part(2, 1, append(block("long"), 7))
	w.Part(-2, -1, nil)
	for s, want := range map[string]bool{"old": true, "new": true, "": true, "ol": false, "newer": false, "long": false} {
		w.expect(t, s, want, file(2, api.Part{At: 0, Data: block(s)}))
	}
	w.expect(t, "the first Block", true, file(2, api.Part{At: 1, Data: block("long")}))
	w.expect(t, "another inode's", false, file(3, api.Part{At: 0, Data: block("new")}))
	w.Synced()
	w.expect(t, "blocks keep all", true, file(2, api.Part{At: 0, Data: block("old")}))
}

func TestSynced(t *testing.T) {
	w := New([]api.Node{dir(1, to("a", 2), to("b", 3), to("c", 4))})
	w.Entry(1, "a", 5)
	w.Entry(1, "b", 0)
	w.Entry(1, "d", 6)
	w.Entry(1, "d", 0)
	w.Synced()
	w.expect(t, "what is now", true, dir(1, to("a", 5), to("c", 4)))
	w.expect(t, "a as it was", false, dir(1, to("a", 2), to("c", 4)))
	w.expect(t, "b", false, dir(1, to("a", 5), to("b", 3), to("c", 4)))
	w.expect(t, "d", false, dir(1, to("a", 5), to("d", 6), to("c", 4)))
	w.expect(t, "without a", false, dir(1, to("c", 4)))
	w.Entry(1, "a", 0)
	w.expect(t, "a or not", true, dir(1, to("c", 4)))
	w.expect(t, "a or not", true, dir(1, to("a", 5), to("c", 4)))
	w.Synced()
	w.Synced()
	w.expect(t, "a is gone", false, dir(1, to("a", 5), to("c", 4)))
	w.expect(t, "c alone", true, dir(1, to("c", 4)))
}

// P2502

// TestAllTheTime: a name that named one inode all the time must be found where its directory is, however often it was told.
func TestAllTheTime(t *testing.T) {
	w := New([]api.Node{dir(1, to("d", 2)), dir(2, to("a", 3))})
	w.Entry(2, "a", 3)
	w.Entry(1, "d", 0)
	w.expect(t, "with it", true, dir(1, to("d", 2)), dir(2, to("a", 3)), file(3))
	w.expect(t, "without its directory", true, dir(1))
	w.expect(t, "without it", false, dir(1, to("d", 2)), dir(2))
	w.expect(t, "its directory's inode is a file's", true, dir(1), file(2))
	w.expect(t, "its directory stands twice", true, dir(1, to("d", 2)), dir(2), dir(2, to("a", 3)))
	w.Entry(2, "a", 4)
	w.Entry(2, "a", 3)
	w.expect(t, "not all the time", true, dir(1), dir(2))
}

// TestFreeSlots: a slot of no inode names nothing, and is not looked for.
func TestFreeSlots(t *testing.T) {
	w := New([]api.Node{dir(1, to("a", 0), to("", 0))})
	w.expect(t, "none", true, dir(1))
	w.expect(t, "a free one", true, dir(1, to("x", 0)))
}

// TestBlocksOfFilesAlone, also those beyond its Size.
func TestBlocksOfFilesAlone(t *testing.T) {
	w := New(nil)
	odd := dir(1)
	odd.Blocks = []api.Part{{At: 0, Data: block("x")}}
	w.expect(t, "a directory's", true, odd)
	far := file(2, api.Part{At: 9, Data: block("x")})
	w.expect(t, "a file's", false, far)
	w.Part(2, 9, block("x"))
	w.expect(t, "beyond its size", true, far)
}

// P2503

func TestNothingInCommon(t *testing.T) {
	l := []api.Node{dir(1, to("a", 2)), file(2, api.Part{At: 0, Data: block("x")})}
	w, other := New(l), New(l)
	b := block("y")
	w.Part(2, 0, b)
	clear(b)
	w.Entry(1, "b", 2)
	clear(l[0].Slots)
	clear(l[1].Blocks[0].Data)
	found := []api.Node{dir(1, to("a", 2)), file(2, api.Part{At: 0, Data: block("y")})}
	if !w.Ok(found) || other.Ok(found) {
		t.Error("y")
	}
	found[0].Slots = append(found[0].Slots, to("b", 2))
	found[1].Blocks[0].Data = block("x")
	if !w.Ok(found) || other.Ok(found) {
		t.Error("b")
	}
}

// plain is the chapter read word by word: all that was told, in order.
type plain struct {
	entries []told
	parts   []api.Node
}

type told struct {
	dir  int
	name string
	ino  int
	sync bool
}

// times are what a name named at some time since the last sync, or at it.
func (p *plain) times(dir int, name string) []int {
	out := []int{0}
	for _, e := range p.entries {
		if e.sync {
			out = out[len(out)-1:]
		} else if e.dir == dir && e.name == name {
			out = append(out, e.ino)
		}
	}
	return out
}

func (p *plain) ok(l []api.Node) bool {
	for _, n := range l {
		for _, e := range n.Slots {
			if e.Ino != 0 && !slices.Contains(p.times(n.Ino, e.Name), e.Ino) {
				return false
			}
		}
		for _, b := range n.Blocks {
			had := slices.ContainsFunc(p.parts, func(o api.Node) bool {
				return o.Ino == n.Ino && o.Blocks[0].At == b.At && bytes.Equal(o.Blocks[0].Data, b.Data)
			})
			if n.Kind == api.File && !had && len(bytes.Trim(b.Data, "\x00")) > 0 {
				return false
			}
		}
	}
	for _, e := range p.entries {
		times := p.times(e.dir, e.name)
		one := times[0] != 0 && !slices.ContainsFunc(times, func(ino int) bool { return ino != times[0] })
		isDir, found := false, false
		for _, n := range l {
			isDir = isDir || n.Ino == e.dir && n.Kind == api.Dir
			found = found || n.Ino == e.dir && slices.ContainsFunc(n.Slots, func(s api.Entry) bool { return s.Ino != 0 && s.Name == e.name })
		}
		if !e.sync && one && isDir && !found {
			return false
		}
	}
	return true
}

func TestDrawn(t *testing.T) {
	draw := rand.New(rand.NewSource(1))
	met := map[bool]int{}
	for range 300 {
		w, p := New(nil), &plain{}
		for range 40 {
			ino, name, text := 1+draw.Intn(3), string(rune('a'+draw.Intn(2))), string(rune('x'+draw.Intn(3)))
			switch draw.Intn(8) {
			case 0:
				w.Synced()
				p.entries = append(p.entries, told{sync: true})
			case 1, 2:
				at := draw.Intn(2)
				w.Part(ino, at, block(text))
				p.parts = append(p.parts, file(ino, api.Part{At: at, Data: block(text)}))
			default:
				to := draw.Intn(4)
				w.Entry(ino, name, to)
				p.entries = append(p.entries, told{dir: ino, name: name, ino: to})
			}
			var l []api.Node
			for ino := range 4 {
				switch draw.Intn(4) {
				case 0:
					l = append(l, file(ino, api.Part{At: draw.Intn(2), Data: block([]string{"", "x", "y"}[draw.Intn(3)])}))
				case 1, 2:
					l = append(l, dir(ino, to("a", draw.Intn(4)), to("b", draw.Intn(4))))
				}
			}
			want := p.ok(l)
			met[want]++
			if w.Ok(l) != want {
				t.Fatalf("%+v: %v", l, !want)
			}
		}
	}
	if met[true] < 300 || met[false] < 300 {
		t.Errorf("%v", met)
	}
}
