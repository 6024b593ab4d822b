package alloc

import (
	"iter"

	"lockgate/api"
	"lockgate/bits"
)

// pool is the room of one kind: of each group a row of bits (1: taken). Its things are numbered from 0 on, group by group.
//
// A row is replaced as a whole and never written into: so all groups begin with one, and a copy of a pool is one of its own.
type pool struct {
	groups, size int // size: things of a group; a row may have more bits than that
	rows         [api.MaxGroups][]byte
}

func newPool(groups, size int, row []byte) pool {
	p := pool{groups: groups, size: size}
	for group := range round(groups, 0) {
		p.rows[group] = row
	}
	return p
}

// takeFirst takes the first free thing from a group on.
func (p *pool) takeFirst(group int) (int, bool) {
	for k := range round(p.groups, group) {
		if i, ok := bits.First(p.rows[k], p.size, 0); ok {
			n := k*p.size + i
			p.set(n, true)
			return n, true
		}
	}
	return 0, false
}

func (p *pool) taken(n int) bool { return bits.Get(p.rows[n/p.size], n%p.size) }

func (p *pool) set(n int, taken bool) {
	group := n / p.size
	p.rows[group] = bits.With(p.rows[group], n%p.size, taken)
}

func (p *pool) free() int {
	n := 0
	for group := range round(p.groups, 0) {
		n += p.size - bits.Count(p.rows[group], p.size)
	}
	return n
}

// round goes over all groups once, from one of them on, the first behind the last; a group that is none stands for the first.
func round(groups, from int) iter.Seq[int] {
	if from < 0 || from >= groups {
		from = 0
	}
	return func(yield func(int) bool) {
		for k := range groups {
			if !yield((from + k) % groups) {
				return
			}
		}
	}
}
