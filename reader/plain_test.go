package reader

import (
	"bytes"
	"encoding/binary"
	"maps"
	"slices"
	"testing"

	"lockgate/api"
)

// readPlainly is a plain reading of P1901, byte by byte, of an image that is a file system.
func readPlainly(image []byte) []api.Node {
	word := func(at int) int { return int(binary.LittleEndian.Uint32(image[at:])) }
	half := func(at int) int { return int(binary.LittleEndian.Uint16(image[at:])) }
	groups, inodes, data := word(8), word(12), word(16)
	var out []api.Node
	for k := range groups * inodes * 16 {
		group, within := k/(inodes*16), k%(inodes*16)
		at := (1+group*(1+inodes+data)+1)*1024 + within*64
		if half(at) == 0 {
			continue
		}
		n := api.Node{Ino: k + 1, Kind: half(at), Links: half(at + 2), Size: word(at + 4)}
		blocks := map[int]int{} // by their numbers within the file
		var level func(depth, pointer, first int)
		level = func(depth, pointer, first int) {
			if pointer == 0 {
				return
			}
			if depth == 0 {
				blocks[first] = pointer
				return
			}
			for i := range 256 {
				level(depth-1, word(pointer*1024+4*i), first+i*[]int{0, 1, 256}[depth])
			}
		}
		for i := range 8 {
			level(0, word(at+8+4*i), i)
		}
		level(1, word(at+40), 8)
		level(2, word(at+44), 8+256)
		for _, first := range slices.Sorted(maps.Keys(blocks)) {
			b := image[blocks[first]*1024 : blocks[first]*1024+1024]
			if n.Kind == 1 {
				n.Blocks = append(n.Blocks, api.Part{At: first, Data: bytes.Clone(b)})
				continue
			}
			for i := range 32 {
				if e := b[i*32 : i*32+32]; first*32+i >= 2 {
					n.Slots = append(n.Slots, api.Entry{Ino: int(binary.LittleEndian.Uint32(e)), Name: string(e[5 : 5+e[4]])})
				}
			}
		}
		out = append(out, n)
	}
	return out
}

// anewPlainly is a plain reading of how chapter 10 numbers nodes: again and again the first one numbered whose slots were not gone over.
func anewPlainly(raw []api.Node) []api.Node {
	if len(raw) == 0 {
		return nil
	}
	numbers := map[int]int{1: 1}
	var out []api.Node
	for next := 1; next <= len(numbers); next++ {
		for _, n := range raw {
			if numbers[n.Ino] != next {
				continue
			}
			n.Ino, n.Slots = next, slices.Clone(n.Slots)
			for i, e := range n.Slots {
				if e.Ino == 0 {
					continue
				}
				if numbers[e.Ino] == 0 {
					numbers[e.Ino] = len(numbers) + 1
				}
				n.Slots[i].Ino = numbers[e.Ino]
			}
			out = append(out, n)
		}
	}
	return out
}

// same holds nodes against those that are wanted, field by field.
func same(t testing.TB, call string, got, want []api.Node) {
	t.Helper()
	if len(got) != len(want) {
		t.Fatalf("%s: %d nodes, not %d", call, len(got), len(want))
	}
	for k, n := range got {
		w := want[k]
		if n.Ino != w.Ino || n.Kind != w.Kind || n.Links != w.Links || n.Size != w.Size {
			t.Fatalf("%s: %d %d %d %d, not %d %d %d %d", call, n.Ino, n.Kind, n.Links, n.Size, w.Ino, w.Kind, w.Links, w.Size)
		}
		if !slices.Equal(n.Slots, w.Slots) {
			t.Fatalf("%s: of %d the slots %v, not %v", call, n.Ino, n.Slots, w.Slots)
		}
		if len(n.Blocks) != len(w.Blocks) {
			t.Fatalf("%s: of %d %d blocks, not %d", call, n.Ino, len(n.Blocks), len(w.Blocks))
		}
		for i, p := range n.Blocks {
			if p.At != w.Blocks[i].At || !bytes.Equal(p.Data, w.Blocks[i].Data) {
				t.Fatalf("%s: of %d block %d, not %d, or other bytes", call, n.Ino, p.At, w.Blocks[i].At)
			}
		}
	}
}
