package walk

import (
	"math/rand/v2"
	"slices"
	"strconv"
	"strings"
	"testing"

	"lockgate/api"
	"lockgate/path"
	"lockgate/tree"
)

// loop is a list with one of everything that a list of nodes may have: two nodes of one number, rings, names of none, free slots.
func loop() []api.Node {
	return []api.Node{
		file(9),
		dir(4, to(1, "up"), to(0, ""), to(4, "self"), to(9, "g")),
		dir(1, to(4, "d"), to(0, "free"), to(9, "f"), to(99, "none"), to(-7, "odd"), to(9, "twin"), to(4, "twin")),
		dir(9, to(4, "never")),
		dir(1, to(9, "never")),
		dir(-7, to(1<<40, "far")),
		file(1 << 40),
		dir(0, to(9, "a")),
	}
}

// P2001

func TestFind(t *testing.T) {
	for s, want := range map[string]struct {
		at  int
		err api.Errno
	}{
		"/":                 {2, api.OK},
		"/d":                {1, api.OK},
		"/f":                {0, api.OK}, // the first node of that number
		"/d/g":              {0, api.OK},
		"/d/self/self/g":    {0, api.OK},
		"/d/up/d/up":        {2, api.OK},
		"/odd":              {5, api.OK},
		"/odd/far":          {6, api.OK},
		"/twin":             {0, api.OK}, // the first slot of that name
		"/a":                {0, api.ErrNone},
		"/a/b":              {0, api.ErrNone},
		"/D":                {0, api.ErrNone},
		"/free":             {0, api.ErrNone},
		"/free/a":           {0, api.ErrNone},
		"/none":             {0, api.ErrNone},
		"/none/a":           {0, api.ErrNone},
		"/d/f":              {0, api.ErrNone},
		"/f/a":              {0, api.ErrNotDir},
		"/f/a/b":            {0, api.ErrNotDir},
		"/f/never":          {0, api.ErrNotDir},
		"/twin/g":           {0, api.ErrNotDir},
		"/odd/far/a":        {0, api.ErrNotDir},
		"":                  {0, api.ErrName},
		"d":                 {0, api.ErrName},
		"//":                {0, api.ErrName},
		"/d/":               {0, api.ErrName},
		"/d//g":             {0, api.ErrName},
		"/f/.":              {0, api.ErrName}, // a path's own error comes ahead of all others
		"/none/..":          {0, api.ErrName},
		"/f/\x00":           {0, api.ErrName},
		"/" + longest + "n": {0, api.ErrName}, // no name has so many bytes
		"/" + longest:       {0, api.ErrNone},
	} {
		if at, err := Find(loop(), s); at != want.at || err != want.err {
			t.Errorf("%s: %d, %d", s, at, err)
		}
	}
}

var longest = strings.Repeat("n", api.MaxName)

func TestFindByLongPaths(t *testing.T) {
	l := []api.Node{dir(1, to(1, "d"), to(1, "dd"))}
	for s, want := range map[string]api.Errno{
		strings.Repeat("/d", 250):         api.OK, // of MaxPath bytes
		strings.Repeat("/d", 248) + "/dd": api.OK,
		strings.Repeat("/d", 249) + "/n":  api.ErrNone,
		strings.Repeat("/d", 249) + "/dd": api.ErrName,
		strings.Repeat("/d", 251):         api.ErrName,
	} {
		if at, err := Find(l, s); at != 0 || err != want {
			t.Errorf("of %d bytes: %d, %d", len(s), at, err)
		}
	}
}

func TestFindWithoutARoot(t *testing.T) {
	for name, l := range map[string][]api.Node{
		"nothing":    nil,
		"others":     {dir(2, to(1, "a")), dir(0), dir(-1)},
		"a free one": {{}},
	} {
		for s, want := range map[string]api.Errno{"/": api.ErrNone, "/a": api.ErrNone, "/a/b": api.ErrNone, "a": api.ErrName, "/..": api.ErrName} {
			if at, err := Find(l, s); at != 0 || err != want {
				t.Errorf("%s: %s: %d, %d", name, s, at, err)
			}
		}
	}
}

func TestFindBelowARootThatIsNoDirectory(t *testing.T) {
	for _, kind := range []int{api.Free, api.File, 3, -1} {
		l := []api.Node{file(2), {Ino: 1, Kind: kind, Slots: []api.Entry{to(2, "a")}}}
		if at, err := Find(l, "/"); at != 1 || err != api.OK {
			t.Errorf("%d: %d, %d", kind, at, err)
		}
		if at, err := Find(l, "/a"); at != 0 || err != api.ErrNotDir {
			t.Errorf("%d: %d, %d", kind, at, err)
		}
		if got := Paths(l); len(got) != 0 {
			t.Errorf("%d: %q", kind, got)
		}
	}
}

func TestPaths(t *testing.T) {
	for name, x := range map[string]struct {
		l    []api.Node
		want []string
	}{
		"nothing":           {nil, nil},
		"no root":           {[]api.Node{dir(2, to(3, "a")), file(3), dir(0, to(3, "b"))}, nil},
		"a root alone":      {[]api.Node{dir(1, to(0, ""), to(0, "a"))}, nil},
		"one within one":    {[]api.Node{dir(1, to(2, "a")), dir(2, to(3, "b")), dir(3)}, []string{"/a", "/a/b"}},
		"slots' order":      {[]api.Node{file(2), dir(1, to(2, "b"), to(0, ""), to(2, "a"), to(2, "b"))}, []string{"/b", "/a", "/b"}},
		"what is within":    {[]api.Node{dir(1, to(2, "a"), to(5, "z"), to(3, "b")), dir(2, to(4, "c"), to(5, "d")), dir(3, to(5, "e")), dir(4, to(5, "f")), file(5)}, []string{"/a", "/a/c", "/a/c/f", "/a/d", "/z", "/b", "/b/e"}},
		"by two ways":       {[]api.Node{dir(1, to(2, "a"), to(2, "b")), dir(2, to(3, "c")), file(3)}, []string{"/a", "/a/c", "/b"}},
		"first deep within": {[]api.Node{dir(1, to(2, "a"), to(3, "b")), dir(2, to(3, "c")), dir(3, to(4, "d")), file(4)}, []string{"/a", "/a/c", "/a/c/d", "/b"}},
		"no slots of files": {[]api.Node{dir(1, to(2, "a"), to(3, "b")), {Ino: 2, Kind: api.File, Slots: []api.Entry{to(1, "c")}}, {Ino: 3, Kind: 7, Slots: []api.Entry{to(1, "c")}}}, []string{"/a", "/b"}},
		"any names":         {[]api.Node{dir(1, to(2, ""), to(2, "a/b"), to(2, "."), to(3, "..")), file(2), dir(3, to(2, "\x00"), to(3, ""))}, []string{"/", "/a/b", "/.", "/..", "/../\x00", "/../"}},
		"rings":             {loop(), []string{"/d", "/d/up", "/d/self", "/d/g", "/f", "/none", "/odd", "/odd/far", "/twin", "/twin"}},
	} {
		if got := Paths(x.l); !slices.Equal(got, x.want) {
			t.Errorf("%s: %q, not %q", name, got, x.want)
		}
	}
}

func TestPathsOfMaxPathBytes(t *testing.T) {
	// Of the two names of the first directory the one leads to a path of all bytes that there may be, the other to one more.
	for first := range 4 {
		l := []api.Node{dir(1, to(2, strings.Repeat("a", first)))}
		for k := range 250 {
			l = append(l, dir(2+k, to(3+k, "b")))
		}
		got := Paths(l)
		longest := "/" + strings.Repeat("a", first) + strings.Repeat("/b", len(got)-1)
		if got[len(got)-1] != longest || len(longest) != api.MaxPath-(1+first)%2 {
			t.Errorf("%d: %d paths, the last one of %d bytes", first, len(got), len(got[len(got)-1]))
		}
	}
}

func TestPathsThatAreTooLongAreNotGoneInto(t *testing.T) {
	fits, over := strings.Repeat("n", api.MaxPath-1), strings.Repeat("n", api.MaxPath)
	l := []api.Node{dir(1, to(2, over), to(3, fits), to(4, "a"), to(2, "b")), dir(2, to(5, "c")), dir(3, to(4, "")), dir(4, to(5, "d")), file(5)}
	want := []string{"/" + fits, "/a", "/a/d", "/b", "/b/c"}
	if got := Paths(l); !slices.Equal(got, want) {
		t.Errorf("%q", got)
	}
}

func TestPathsAtMost(t *testing.T) {
	for _, count := range []int{9999, 10000, 10001, 30000} {
		var slots, within []api.Entry
		for k := range count - 5000 {
			slots = append(slots, to(2, strconv.Itoa(k)))
		}
		for k := range 5000 {
			within = append(within, to(3, strconv.Itoa(k)))
		}
		got := Paths([]api.Node{dir(1, slots...), dir(2, within...), file(3)})
		if len(got) != min(count, 10000) || got[5000] != "/0/4999" || got[9998] != "/"+strconv.Itoa(4998) {
			t.Errorf("of %d: %d", count, len(got))
		}
	}
	// A row of directories in each of which thousands of slots stand: the end comes deep down.
	var l []api.Node
	for k := range 20 {
		l = append(l, dir(1+k, append([]api.Entry{to(2+k, "d")}, make([]api.Entry, 700)...)...))
		for at := range 700 {
			l[k].Slots[1+at] = to(99, "x")
		}
	}
	if got := Paths(l); len(got) != 10000 || got[9999] != "/d/d/d/d/d/x" {
		t.Errorf("%d, %q", len(got), got[len(got)-1])
	}
}

// TestAsTree holds Find and Paths against a tree that knows its own ways down.
func TestAsTree(t *testing.T) {
	for seed := range uint64(60) {
		r := rand.New(rand.NewPCG(seed, 20))
		m := tree.New(api.Geometry{Groups: 8, Inodes: 4, Data: 1000})
		for range 150 {
			m.Do(api.Call{Kind: []int{api.CCreate, api.CMkdir, api.CMkdir, api.CLink, api.CUnlink, api.CRmdir, api.CRename}[r.IntN(7)], Path: drawnPath(r), To: drawnPath(r)})
		}
		l := m.Nodes()
		rows := map[string][]string{} // the names within a path, as the tree tells them
		for _, s := range append(Paths(l), "/") {
			asTree(t, m, l, s)
			rows[s] = m.Do(api.Call{Kind: api.CList, Path: s}).Names
		}
		var want []string
		var down func(s string)
		down = func(s string) {
			for _, name := range rows[s] {
				next := strings.TrimSuffix(s, "/") + "/" + name
				want = append(want, next)
				down(next)
			}
		}
		down("/")
		if got := Paths(l); !slices.Equal(got, want) {
			t.Fatalf("%d: %q, not %q", seed, got, want)
		}
		for range 200 {
			asTree(t, m, l, drawnPath(r))
		}
	}
}

// asTree holds what Find tells of a path against what the tree tells.
func asTree(t *testing.T, m *tree.Tree, l []api.Node, s string) {
	t.Helper()
	at, err := Find(l, s)
	want := m.Do(api.Call{Kind: api.CStat, Path: s})
	if err != want.Err {
		t.Fatalf("%q: %d, not %d", s, err, want.Err)
	}
	if err == api.OK && (l[at].Kind != want.Kind || l[at].Links != want.Links || l[at].Size != want.Size) {
		t.Fatalf("%q: %v, not %v", s, l[at], want)
	}
}

// drawnPath is a path of few names, seldom one that may not be.
func drawnPath(r *rand.Rand) string {
	s := ""
	for range 1 + r.IntN(4) {
		s += "/" + string(rune('a'+r.IntN(4)))
	}
	if r.IntN(30) == 0 {
		s += []string{"/", "/.", "//a", "/..", "\x00"}[r.IntN(5)]
	}
	return s
}

// TestPlainly holds Find, Paths and Renumber against a plain reading of the chapter, on drawn lists that are no trees.
func TestPlainly(t *testing.T) {
	for seed := range uint64(4000) {
		r := rand.New(rand.NewPCG(seed, 2001))
		l := drawnNodes(r)
		want := pathsPlainly(l)
		got := Paths(l)
		if !slices.Equal(got, want) {
			t.Fatalf("%d: %v: %q, not %q", seed, l, got, want)
		}
		for range 20 {
			got = append(got, drawnPath(r))
		}
		for _, s := range append(got, "/") {
			at, err := Find(l, s)
			wantAt, wantErr := findPlainly(l, s)
			if at != wantAt || err != wantErr {
				t.Fatalf("%d: %v: %q: %d, %d, not %d, %d", seed, l, s, at, err, wantAt, wantErr)
			}
		}
		if anew := Renumber(l); !Same(anew, renumberPlainly(l)) {
			t.Fatalf("%d: %v: %v", seed, l, anew)
		}
	}
}

// drawnNodes are a few nodes, with few numbers and names among them.
func drawnNodes(r *rand.Rand) []api.Node {
	var l []api.Node
	for range r.IntN(9) {
		n := api.Node{Ino: r.IntN(7), Kind: []int{api.Dir, api.Dir, api.Dir, api.File, api.Free, 3}[r.IntN(6)], Links: r.IntN(4), Size: r.IntN(3000)}
		for range r.IntN(6) {
			name := string(rune('a' + r.IntN(4)))
			switch r.IntN(20) {
			case 0:
				name = ""
			case 1:
				name = "a/b"
			case 2:
				name = strings.Repeat("n", 200+r.IntN(310))
			}
			n.Slots = append(n.Slots, to(r.IntN(8), name))
		}
		l = append(l, n)
	}
	return l
}

// nodePlainly is the place of the first node of that number.
func nodePlainly(l []api.Node, ino int) int {
	return slices.IndexFunc(l, func(n api.Node) bool { return n.Ino == ino && ino != 0 })
}

func findPlainly(l []api.Node, s string) (int, api.Errno) {
	parts, err := path.Split(s)
	if err != api.OK {
		return 0, err
	}
	at := nodePlainly(l, api.Root)
	if at < 0 {
		return 0, api.ErrNone
	}
	for _, part := range parts {
		if l[at].Kind != api.Dir {
			return 0, api.ErrNotDir
		}
		slot := slices.IndexFunc(l[at].Slots, func(e api.Entry) bool { return e.Ino != 0 && e.Name == part })
		if slot < 0 {
			return 0, api.ErrNone
		}
		if at = nodePlainly(l, l[at].Slots[slot].Ino); at < 0 {
			return 0, api.ErrNone
		}
	}
	return at, api.OK
}

// pathsPlainly has a row of what is still to be told, the next one last.
func pathsPlainly(l []api.Node) []string {
	type step struct {
		ino int
		at  []string
	}
	var out []string
	gone := map[int]bool{}
	for row := []step{{api.Root, nil}}; len(row) > 0 && len(out) < 10000; {
		now := row[len(row)-1]
		row = row[:len(row)-1]
		if s := path.Join(now.at); len(now.at) > 0 && len(s) > api.MaxPath {
			continue
		} else if len(now.at) > 0 {
			out = append(out, s)
		}
		k := nodePlainly(l, now.ino)
		if k < 0 || l[k].Kind != api.Dir || gone[k] {
			continue
		}
		gone[k] = true
		for _, e := range slices.Backward(l[k].Slots) {
			if e.Ino != 0 {
				row = append(row, step{e.Ino, append(slices.Clone(now.at), e.Name)})
			}
		}
	}
	return out
}

func renumberPlainly(l []api.Node) []api.Node {
	var out []api.Node
	var found []int // the places of the nodes that have a number, which is one more than that here
	number := func(ino int) int {
		k := nodePlainly(l, ino)
		if k < 0 {
			return 0
		}
		if !slices.Contains(found, k) {
			found = append(found, k)
		}
		return slices.Index(found, k) + 1
	}
	for number(api.Root); len(out) < len(found); {
		n := l[found[len(out)]]
		n.Ino = len(out) + 1
		n.Slots = slices.Clone(n.Slots)
		for k, e := range n.Slots {
			n.Slots[k] = to(number(e.Ino), e.Name)
			if n.Slots[k].Ino == 0 {
				n.Slots[k] = api.Entry{}
			}
		}
		out = append(out, n)
	}
	return out
}

// P2003

func TestWaysLeaveWhatIsHandedIn(t *testing.T) {
	given := loop()
	for k := range given {
		given[k].Slots = append(given[k].Slots, to(9, "spare"))[:len(given[k].Slots)]
	}
	first := Paths(given)
	Find(given, "/d/up/d/g")
	for k := range given {
		if all := given[k].Slots; all[:len(all)+1][len(all)] != to(9, "spare") {
			t.Errorf("the spare room of %d is changed", k)
		}
	}
	if !Same(given, loop()) {
		t.Errorf("what was handed in is changed: %v", given)
	}
	clear(given)
	if !slices.Equal(first, Paths(loop())) {
		t.Errorf("%q", first)
	}
	clear(first)
	if again := Paths(loop()); len(again) != 10 || again[0] != "/d" {
		t.Errorf("%q", again)
	}
}
