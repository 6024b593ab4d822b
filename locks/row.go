package locks

// row is a list in which the one that came first goes first. The zero row is empty.
type row[T any] struct{ list []T }

func (r *row[T]) push(one T) { r.list = append(r.list, one) }

func (r *row[T]) empty() bool { return len(r.list) == 0 }

// first is asked of a row that is not empty.
func (r *row[T]) first() T { return r.list[0] }

// drop takes the first one off, without moving those behind it.
func (r *row[T]) drop() { r.list = r.list[1:] }

func (r *row[T]) copy() *row[T] { return &row[T]{append([]T(nil), r.list...)} }
