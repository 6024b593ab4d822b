package cache

import "iter"

// list is a row of values. Who holds a place of it takes it out of the middle without a search.
type list[T any] struct{ first, last *place[T] }

type place[T any] struct {
	value         T
	ahead, behind *place[T]
}

// add puts a value at the end.
func (l *list[T]) add(value T) *place[T] {
	p := &place[T]{value: value}
	l.link(p)
	return p
}

// toEnd moves a place of the list to its end.
func (l *list[T]) toEnd(p *place[T]) {
	l.remove(p)
	l.link(p)
}

func (l *list[T]) remove(p *place[T]) {
	if p.ahead == nil {
		l.first = p.behind
	} else {
		p.ahead.behind = p.behind
	}
	if p.behind == nil {
		l.last = p.ahead
	} else {
		p.behind.ahead = p.ahead
	}
	p.ahead, p.behind = nil, nil
}

func (l *list[T]) link(p *place[T]) {
	p.ahead = l.last
	if l.last == nil {
		l.first = p
	} else {
		l.last.behind = p
	}
	l.last = p
}

// all goes over the places from the first one on; the one that is told may be removed meanwhile.
func (l *list[T]) all() iter.Seq[*place[T]] {
	return func(yield func(*place[T]) bool) {
		for p := l.first; p != nil; {
			behind := p.behind
			if !yield(p) {
				return
			}
			p = behind
		}
	}
}
