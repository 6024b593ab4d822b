package fs

// row is a list in which what came first goes first. The zero row is empty.
type row[T any] struct{ list []T }

func (r *row[T]) push(one T) { r.list = append(r.list, one) }

// last is where the one that came last stands; nil: the row is empty.
func (r *row[T]) last() *T {
	if len(r.list) == 0 {
		return nil
	}
	return &r.list[len(r.list)-1]
}

// drop takes the first n off, without moving those behind them.
func (r *row[T]) drop(n int) {
	clear(r.list[:n]) // the room stays for a while; what stood there need not
	r.list = r.list[n:]
}
