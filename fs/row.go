package fs

// row is a list in which what came first goes first, and each thing stands once. The zero row is empty.
type row[T comparable] struct {
	list []T
	in   map[T]struct{}
}

func (r *row[T]) size() int { return len(r.list) }

// push puts a thing last, unless it stands in the row.
func (r *row[T]) push(one T) {
	if _, ok := r.in[one]; ok {
		return
	}
	if r.in == nil {
		r.in = map[T]struct{}{}
	}
	r.in[one] = struct{}{}
	r.list = append(r.list, one)
}

// pop takes the first thing off. There must be one.
func (r *row[T]) pop() T {
	first := r.list[0]
	r.list = r.list[1:]
	delete(r.in, first)
	return first
}
