package walk

import (
	"testing"

	"lockgate/api"
)

// sample is a tree with one of everything.
func sample() []api.Node {
	return []api.Node{
		{Ino: 1, Kind: api.Dir, Links: 2, Size: 1024, Slots: []api.Entry{{Ino: 2, Name: "f"}, {}}},
		{Ino: 2, Kind: api.File, Links: 1, Size: 5, Blocks: []api.Part{{At: 0, Data: []byte("abc")}, {At: 3, Data: []byte("d")}}},
	}
}

// P2002

func TestSame(t *testing.T) {
	if !Same(sample(), sample()) || !Same(nil, nil) || !Same(nil, []api.Node{}) {
		t.Error("the same are not")
	}
	a, b := sample(), sample()
	a[0].Blocks, b[0].Blocks = nil, []api.Part{}
	a[1].Slots, b[1].Slots = []api.Entry{}, nil
	a[1].Blocks[1].Data, b[1].Blocks[1].Data = nil, []byte{}
	if !Same(a, b) {
		t.Error("nil and an empty list mean the same")
	}
}

func TestSameLooksAtAll(t *testing.T) {
	for i, change := range []func(l []api.Node) []api.Node{
		func(l []api.Node) []api.Node { return nil },
		func(l []api.Node) []api.Node { return l[:1] },
		func(l []api.Node) []api.Node { return append(l, api.Node{}) },
		func(l []api.Node) []api.Node { l[0], l[1] = l[1], l[0]; return l },
		func(l []api.Node) []api.Node { l[1].Ino++; return l },
		func(l []api.Node) []api.Node { l[1].Kind++; return l },
		func(l []api.Node) []api.Node { l[1].Links++; return l },
		func(l []api.Node) []api.Node { l[1].Size++; return l },
		func(l []api.Node) []api.Node { l[0].Slots[0].Ino++; return l },
		func(l []api.Node) []api.Node { l[0].Slots[0].Name = "g"; return l },
		func(l []api.Node) []api.Node { l[0].Slots[1].Name = "g"; return l },
		func(l []api.Node) []api.Node { l[0].Slots = l[0].Slots[:1]; return l },
		func(l []api.Node) []api.Node { l[1].Slots = []api.Entry{{}}; return l },
		func(l []api.Node) []api.Node { l[1].Blocks[1].At++; return l },
		func(l []api.Node) []api.Node { l[1].Blocks[0].Data[2]++; return l },
		func(l []api.Node) []api.Node { l[1].Blocks[0].Data = []byte("abcd"); return l },
		func(l []api.Node) []api.Node { l[1].Blocks = l[1].Blocks[:1]; return l },
		func(l []api.Node) []api.Node { l[0].Blocks = []api.Part{{}}; return l },
	} {
		changed := change(sample())
		if Same(sample(), changed) || Same(changed, sample()) {
			t.Errorf("change %d is not seen", i)
		}
	}
}

func to(ino int, name string) api.Entry { return api.Entry{Ino: ino, Name: name} }

func dir(ino int, slots ...api.Entry) api.Node {
	return api.Node{Ino: ino, Kind: api.Dir, Links: 2, Size: 1024, Slots: slots}
}

func file(ino int) api.Node {
	return api.Node{Ino: ino, Kind: api.File, Links: 1, Size: 5, Blocks: []api.Part{{At: 0, Data: []byte{byte(ino)}}, {At: 9, Data: []byte("x")}}}
}

// as is a node with another number.
func as(ino int, n api.Node) api.Node {
	n.Ino = ino
	return n
}

func TestRenumber(t *testing.T) {
	free := api.Entry{}
	for name, x := range map[string]struct{ l, want []api.Node }{
		"nothing":      {nil, nil},
		"no root":      {[]api.Node{dir(2, to(3, "a")), file(3)}, nil},
		"a root alone": {[]api.Node{dir(1, free, free)}, []api.Node{dir(1, free, free)}},
		"already so":   {sample(), sample()},
		"slots' order": {[]api.Node{file(2), file(9), dir(1, to(9, "a"), free, to(2, "b"))}, []api.Node{dir(1, to(2, "a"), free, to(3, "b")), as(2, file(9)), as(3, file(2))}},
		"any numbers":  {[]api.Node{dir(1, to(-7, "a"), to(1<<40, "b")), file(1 << 40), file(-7)}, []api.Node{dir(1, to(2, "a"), to(3, "b")), as(2, file(-7)), as(3, file(1<<40))}},
		"level by level": {
			[]api.Node{dir(1, to(5, "a"), to(4, "b")), file(2), file(3), dir(4, to(2, "c")), dir(5, to(3, "d"), to(6, "e")), dir(6, to(7, "f")), file(7)},
			[]api.Node{dir(1, to(2, "a"), to(3, "b")), as(2, dir(5, to(4, "d"), to(5, "e"))), as(3, dir(4, to(6, "c"))), as(4, file(3)), as(5, dir(6, to(7, "f"))), as(6, file(2)), file(7)},
		},
		"two names":      {[]api.Node{file(3), dir(2, to(3, "b"), to(3, "c")), dir(1, to(3, "a"), to(2, "d"))}, []api.Node{dir(1, to(2, "a"), to(3, "d")), as(2, file(3)), as(3, dir(2, to(2, "b"), to(2, "c")))}},
		"not reached":    {[]api.Node{dir(1, to(3, "a")), file(2), file(3), dir(4, to(2, "b"), to(4, "c"))}, []api.Node{dir(1, to(2, "a")), as(2, file(3))}},
		"names of none":  {[]api.Node{dir(1, to(4, "a"), to(3, "b"), to(-1, "c")), dir(3, to(2, "d"))}, []api.Node{dir(1, free, to(2, "b"), free), dir(2, free)}},
		"a node 0":       {[]api.Node{file(0), dir(1, to(0, ""), to(0, "a"))}, []api.Node{dir(1, free, free)}},
		"in a ring":      {[]api.Node{dir(1, to(9, "a"), to(1, "b")), dir(9, to(1, "c"), to(9, "d"))}, []api.Node{dir(1, to(2, "a"), to(1, "b")), dir(2, to(1, "c"), to(2, "d"))}},
		"twice":          {[]api.Node{dir(1, to(7, "a")), file(7), dir(7, to(1, "b")), dir(1)}, []api.Node{dir(1, to(2, "a")), as(2, file(7))}},
		"fields as such": {[]api.Node{{Ino: 1, Kind: -3, Links: 7, Size: -1, Slots: []api.Entry{to(4, "a/b")}}, {Ino: 4, Kind: 9}}, []api.Node{{Ino: 1, Kind: -3, Links: 7, Size: -1, Slots: []api.Entry{to(2, "a/b")}}, {Ino: 2, Kind: 9}}},
	} {
		if got := Renumber(x.l); !Same(got, x.want) {
			t.Errorf("%s: %v, not %v", name, got, x.want)
		}
	}
}

// P2003

func TestRenumberIsNewMemory(t *testing.T) {
	l := func() []api.Node {
		return []api.Node{dir(1, to(8, "a"), to(9, "b"), to(3, "none")), file(9), dir(8, to(9, "c"))}
	}
	given := l()
	given[0].Slots = append(given[0].Slots, to(9, "spare"))[:3]
	got := Renumber(given)
	spare := given[0].Slots[:4][3]
	if !Same(given, l()) || spare != to(9, "spare") {
		t.Errorf("what was handed in is changed: %v", given)
	}
	want := Renumber(l())
	for k := range given {
		clear(given[k].Slots)
		for _, p := range given[k].Blocks {
			clear(p.Data)
		}
		clear(given[k].Blocks)
	}
	if !Same(got, want) {
		t.Errorf("what was handed in is kept: %v", got)
	}
	clear(got[0].Slots)
	clear(got[2].Blocks[0].Data)
	if again := Renumber(l()); !Same(again, want) {
		t.Errorf("%v", again)
	}
}
