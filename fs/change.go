package fs

import (
	"bytes"
	"slices"

	"lockgate/api"
	"lockgate/bits"
)

const perByte = 8 // bits

// span is a run of a block's bits: the first one, and the one behind the last.
type span struct{ from, end int }

func bytesFrom(at, n int) span { return span{at * perByte, (at + n) * perByte} }

func bit(n int) span { return span{n, n + 1} }

func (s span) laps(o span) bool { return s.from < o.end && o.from < s.end }

func (s span) covers(o span) bool { return s.from <= o.from && o.end <= s.end }

// act is what a block's bytes undergo within a span, and what takes it back.
type act struct {
	block    int
	where    span
	do, undo func([]byte)
	then     func() // what is to be done when it is on the disk; nil: nothing. (An act that becomes part of a change has none.)
}

// change is an act that was done in memory, and is not on the disk yet.
type change struct {
	id    int // in the graph
	where span
	undo  func([]byte)
	then  func()
}

// block is a block as it will be.
func (f *FS) block(n int) []byte {
	from, end := n*api.Block, (n+1)*api.Block
	return f.image[from:end:end]
}

// laid is the act that lays bytes into a block from a place on.
func (f *FS) laid(block, at int, b []byte) act {
	was, now := bytes.Clone(f.block(block)[at:at+len(b)]), bytes.Clone(b)
	return act{
		block: block,
		where: bytesFrom(at, len(b)),
		do:    func(b []byte) { copy(b[at:], now) },
		undo:  func(b []byte) { copy(b[at:], was) },
	}
}

// turned is the act that turns a bit of a block on or off. The others of its byte are no concern of it: they may be turned ahead of it or behind it.
func (f *FS) turned(block, n int, on bool) act {
	turn := func(on bool) func([]byte) {
		return func(b []byte) {
			at := n / perByte
			copy(b[at:], bits.With(b[at:at+1], n%perByte, on))
		}
	}
	return act{block: block, where: bit(n), do: turn(on), undo: turn(!on)}
}

// alter does an act: in memory at once; it comes to the disk behind the changes on which it hangs, and behind those of the same place. It tells the change that it is.
//
// An act within the place of a change that is left becomes part of that, if it is no risk: then the disk just never is as memory was between them.
func (f *FS) alter(a act, on []int) []int {
	under := f.under(a.block, a.where)
	a.do(f.block(a.block))
	if len(under) > 0 && under[0].where.covers(a.where) && f.joins(under[0].id, on) {
		return []int{under[0].id} // what undoes that one undoes the act too
	}
	id, _ := f.graph.Add(a.block, slices.Concat(numbers(under), on))
	f.left[a.block] = append(f.left[a.block], change{id, a.where, a.undo, a.then})
	f.row.push(a.block)
	return []int{id}
}

// put puts bytes into a block from a place on, unless they lie there; it tells the changes behind which they lie there on the disk too.
func (f *FS) put(block, at int, b []byte, on []int) []int {
	if bytes.Equal(f.block(block)[at:at+len(b)], b) {
		return slices.Concat(f.behind(block, bytesFrom(at, len(b))), on)
	}
	return f.alter(f.laid(block, at, b), on)
}

// under are the changes that are left in a span of a block, the last one first, as far as one that covers it: all that came ahead of that one in this span it hangs on.
func (f *FS) under(block int, where span) []change {
	var out []change
	for _, c := range slices.Backward(f.left[block]) {
		if !c.where.laps(where) {
			continue
		}
		out = append(out, c)
		if c.where.covers(where) {
			break
		}
	}
	return out
}

// behind are the changes behind which a span of a block is on the disk as it is in memory.
func (f *FS) behind(block int, where span) []int { return numbers(f.under(block, where)) }

// joins lets a change that is left hang on further ones; false: these might wait for it.
func (f *FS) joins(id int, on []int) bool {
	further := slices.DeleteFunc(slices.Clone(on), func(o int) bool { return o == id || f.graph.Done(o) })
	return len(further) == 0 || f.graph.Join(id, further)
}

func numbers(l []change) []int {
	var out []int
	for _, c := range l {
		out = append(out, c.id)
	}
	return out
}
