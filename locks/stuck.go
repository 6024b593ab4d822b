package locks

import (
	"maps"
	"slices"
)

// Stuck tells the threads that wait for good, whatever those that do not wait release.
func (t *Table) Stuck() []int {
	rest := t.waited()
	has := rest.byThread()
	free := rest.free(has)
	// In which order they release is all one: who is first in a row stays so until it is granted, and a release hinders nobody.
	for len(free) > 0 {
		thread := free[len(free)-1]
		free = free[:len(free)-1]
		for _, thing := range has[thread] {
			for _, l := range rest.Release(thread, thing) {
				has[l.Thread] = append(has[l.Thread], thing)
				free = append(free, l.Thread)
			}
		}
	}
	return slices.Sorted(maps.Keys(rest.waits))
}

// waited is a table of its own with the things for which somebody waits: no other one can hold anybody up.
func (t *Table) waited() *Table {
	to := New()
	to.start()
	maps.Copy(to.waits, t.waits)
	for thing, r := range t.rows {
		h := t.held[thing]
		to.rows[thing] = r.copy()
		to.held[thing] = &holders{maps.Clone(h.threads), h.alone}
	}
	return to
}

// byThread is the things that each thread holds.
func (t *Table) byThread() map[int][]int {
	has := make(map[int][]int)
	for thing, h := range t.held {
		for thread := range h.threads {
			has[thread] = append(has[thread], thing)
		}
	}
	return has
}

// free is those of the threads that do not wait.
func (t *Table) free(has map[int][]int) []int {
	var l []int
	for thread := range has {
		if _, waits := t.waits[thread]; !waits {
			l = append(l, thread)
		}
	}
	return l
}
