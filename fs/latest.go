package fs

import (
	"maps"
	"slices"

	"lockgate/deps"
)

// latest knows of things the last changes that were made of each, at least while they are not done. The zero one knows none.
type latest[K comparable] struct{ changes map[K][]int }

// of are the last changes of a thing; some of them may be done.
func (l *latest[K]) of(thing K) []int { return slices.Clone(l.changes[thing]) }

// set tells the last changes of a thing, of this graph. What is done is forgotten now and then, so that no more is kept than is left.
func (l *latest[K]) set(g *deps.Graph, thing K, changes []int) {
	if len(l.changes) > 2*g.Left() {
		maps.DeleteFunc(l.changes, func(_ K, ids []int) bool {
			return !slices.ContainsFunc(ids, func(id int) bool { return !g.Done(id) })
		})
	}
	if l.changes == nil {
		l.changes = map[K][]int{}
	}
	l.changes[thing] = slices.Clone(changes)
}
