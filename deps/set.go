package deps

import (
	"cmp"
	"maps"
	"slices"
)

// set is members, each of them once. The zero set has none.
type set[T cmp.Ordered] struct{ members map[T]struct{} }

// setOf has the values of a list.
func setOf[T cmp.Ordered](values []T) set[T] {
	var s set[T]
	for _, v := range values {
		s.add(v)
	}
	return s
}

// add tells whether the value is new to the set.
func (s *set[T]) add(value T) bool {
	if s.has(value) {
		return false
	}
	if s.members == nil {
		s.members = make(map[T]struct{})
	}
	s.members[value] = struct{}{}
	return true
}

func (s *set[T]) remove(value T) { delete(s.members, value) }

func (s *set[T]) has(value T) bool {
	_, ok := s.members[value]
	return ok
}

func (s *set[T]) size() int { return len(s.members) }

// rising is the members as a list of its own, in an order that no map gives.
func (s *set[T]) rising() []T { return slices.Sorted(maps.Keys(s.members)) }

func (s *set[T]) copy() set[T] { return set[T]{maps.Clone(s.members)} }
