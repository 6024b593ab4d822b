package walk

import (
	"testing"

	"lockgate/api"
)

// sample is a tree with one of everything.
func sample() []api.Node {
	return []api.Node{
		{Ino: 1, Kind: api.Dir, Links: 2, Size: 1024, Slots: []api.Entry{{Ino: 2, Name: "f"}, {}}},
		{Ino: 2, Kind: api.File, Links: 1, Size: 5, Blocks: []api.Part{{At: 0, Data: []byte("abc")}, {At: 3, Data: []byte("d")}}},
	}
}

// P2002

func TestSame(t *testing.T) {
	if !Same(sample(), sample()) || !Same(nil, nil) || !Same(nil, []api.Node{}) {
		t.Error("the same are not")
	}
	a, b := sample(), sample()
	a[0].Blocks, b[0].Blocks = nil, []api.Part{}
	a[1].Slots, b[1].Slots = []api.Entry{}, nil
	a[1].Blocks[1].Data, b[1].Blocks[1].Data = nil, []byte{}
	if !Same(a, b) {
		t.Error("nil and an empty list mean the same")
	}
}

func TestSameLooksAtAll(t *testing.T) {
	for i, change := range []func(l []api.Node) []api.Node{
		func(l []api.Node) []api.Node { return nil },
		func(l []api.Node) []api.Node { return l[:1] },
		func(l []api.Node) []api.Node { return append(l, api.Node{}) },
		func(l []api.Node) []api.Node { l[0], l[1] = l[1], l[0]; return l },
		func(l []api.Node) []api.Node { l[1].Ino++; return l },
		func(l []api.Node) []api.Node { l[1].Kind++; return l },
		func(l []api.Node) []api.Node { l[1].Links++; return l },
		func(l []api.Node) []api.Node { l[1].Size++; return l },
		func(l []api.Node) []api.Node { l[0].Slots[0].Ino++; return l },
		func(l []api.Node) []api.Node { l[0].Slots[0].Name = "g"; return l },
		func(l []api.Node) []api.Node { l[0].Slots[1].Name = "g"; return l },
		func(l []api.Node) []api.Node { l[0].Slots = l[0].Slots[:1]; return l },
		func(l []api.Node) []api.Node { l[1].Slots = []api.Entry{{}}; return l },
		func(l []api.Node) []api.Node { l[1].Blocks[1].At++; return l },
		func(l []api.Node) []api.Node { l[1].Blocks[0].Data[2]++; return l },
		func(l []api.Node) []api.Node { l[1].Blocks[0].Data = []byte("abcd"); return l },
		func(l []api.Node) []api.Node { l[1].Blocks = l[1].Blocks[:1]; return l },
		func(l []api.Node) []api.Node { l[0].Blocks = []api.Part{{}}; return l },
	} {
		changed := change(sample())
		if Same(sample(), changed) || Same(changed, sample()) {
			t.Errorf("change %d is not seen", i)
		}
	}
}
