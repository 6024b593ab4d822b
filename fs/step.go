package fs

import (
	"bytes"
	"slices"
)

// Left tells how many changes are not on the disk yet.
func (f *FS) Left() int { return f.graph.Left() }

// Step writes the block that has waited the longest of those that have a change that may be on the disk now; false: there was none, or the power failed.
func (f *FS) Step() bool {
	for range f.row.size() {
		block := f.row.pop()
		wrote := f.bring(block)
		if len(f.left[block]) > 0 {
			f.row.push(block)
		}
		if wrote || f.d.Dead() {
			return wrote
		}
	}
	return false
}

// bring writes a block with all its changes that may be on the disk now; false: there is none, or the power failed.
//
// None of them hangs on another one: so the disk may also be left with those of the block's first sector alone.
func (f *FS) bring(block int) bool {
	next := f.graph.Next(block)
	if len(next) == 0 {
		return false
	}
	b := bytes.Clone(f.block(block))
	for _, c := range slices.Backward(f.left[block]) {
		if !among(next, c.id) {
			c.undo(b)
		}
	}
	if !f.d.Write(block, b) {
		return false
	}
	f.graph.Written(block)
	f.forget(block, next)
	return true
}

// forget forgets changes of a block, which are on the disk.
func (f *FS) forget(block int, done []int) {
	f.left[block] = slices.DeleteFunc(f.left[block], func(c change) bool {
		isDone := among(done, c.id)
		if isDone && c.then != nil {
			c.then()
		}
		return isDone
	})
	if len(f.left[block]) == 0 {
		delete(f.left, block)
	}
}

// settleAll writes until nothing is left; false: the power failed.
func (f *FS) settleAll() bool {
	for f.Step() {
	}
	return f.Left() == 0
}

// settle writes until these changes are on the disk, and no blocks but those that they need; false: the power failed.
func (f *FS) settle(want []int) bool {
	need := f.graph.Need(want)
	needed := func(id int) bool { return among(need, id) }
	blocks := slices.DeleteFunc(f.graph.Bufs(), func(block int) bool {
		return !slices.ContainsFunc(numbers(f.left[block]), needed)
	})
	for len(need) > 0 {
		for _, block := range blocks {
			for slices.ContainsFunc(f.graph.Next(block), needed) {
				if !f.bring(block) {
					return false
				}
			}
		}
		need = slices.DeleteFunc(need, f.graph.Done)
	}
	return true
}

// among tells whether a number is one of a list that rises.
func among(l []int, n int) bool {
	_, ok := slices.BinarySearch(l, n)
	return ok
}
