package patch

import (
	"cmp"
	"container/heap"
	"iter"
	"slices"

	"lockgate/api"
)

// Safe tells whether no change of l that stays laps with one ahead of it in l that is out: then those that are out may be made behind the others.
func Safe(l []api.Patch, out []int) bool {
	isOut := among(out)
	// Of those that are out the one that stands first in l is asked for, of those that stay the last: if it is no harm, none of them is.
	var gone, stay pile
	for i, c := range rising(l) {
		if isOut(c.ID) {
			if last, ok := stay.head(c); ok && -last > i {
				return false
			}
			heap.Push(&gone, spot{i, c})
			continue
		}
		if first, ok := gone.head(c); ok && first < i {
			return false
		}
		heap.Push(&stay, spot{-i, c})
	}
	return true
}

// rising goes over the changes that have bytes, with where they stand in l, by rising At.
func rising(l []api.Patch) iter.Seq2[int, api.Patch] {
	return func(yield func(int, api.Patch) bool) {
		order := make([]int, 0, len(l))
		for i, c := range l {
			if len(c.New) > 0 {
				order = append(order, i)
			}
		}
		slices.SortFunc(order, func(i, j int) int { return cmp.Compare(l[i].At, l[j].At) })
		for _, i := range order {
			if !yield(i, l[i]) {
				return
			}
		}
	}
}

// spot is a change with its rank: the least one comes first.
type spot struct {
	rank  int
	patch api.Patch
}

// pile is a heap of changes that begin at or ahead of the one that is looked at.
type pile []spot

// head is the least rank of those that lap with c. The others of less rank are thrown away: they end ahead of c, and so ahead of all behind it.
func (p *pile) head(c api.Patch) (int, bool) {
	for len(*p) > 0 {
		if first := (*p)[0]; Lap(first.patch, c) {
			return first.rank, true
		}
		heap.Pop(p)
	}
	return 0, false
}

func (p pile) Len() int           { return len(p) }
func (p pile) Less(i, j int) bool { return p[i].rank < p[j].rank }
func (p pile) Swap(i, j int)      { p[i], p[j] = p[j], p[i] }

func (p *pile) Push(s any) { *p = append(*p, s.(spot)) }

func (p *pile) Pop() any {
	last := len(*p) - 1
	s := (*p)[last]
	*p = (*p)[:last]
	return s
}
