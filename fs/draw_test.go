package fs

import (
	"math/rand"
	"strings"
	"testing"

	"lockgate/api"
	"lockgate/walk"
)

const seeds = 100

// P2104, P2107

func TestDrawnCalls(t *testing.T) {
	for seed := range seeds {
		draw := rand.New(rand.NewSource(int64(seed)))
		w := watch(t, []api.Geometry{tight, small, {Groups: 1, Inodes: 1, Data: 16}, {Groups: 3, Inodes: 1, Data: 9}}[seed%4])
		l := lots{draw, 1 + draw.Intn(4), 2 + draw.Intn(4), 1 + draw.Intn(3)}
		if seed%8 == 7 { // directories of more than a block
			w, l = watch(t, api.Geometry{Groups: 1, Inodes: 4, Data: 60}), lots{draw, 50, 3, 1 + draw.Intn(2)}
		}
		w.draw(l, 80)
		w = w.repaired(draw, seed/2%2*draw.Intn(20))
		w.draw(l, 20)
		for w.f.Left() > 0 {
			w.step(draw)
		}
		w.do(api.Call{Kind: api.CSync})
	}
}

// draw does drawn calls, so many, and steps between them: more or fewer.
func (w *watched) draw(l lots, n int) {
	w.t.Helper()
	often := 1 + l.Intn(5)
	for range n {
		w.do(l.call(walk.Paths(w.now)))
		w.some(l.Rand)
		for range l.Intn(often) {
			w.step(l.Rand)
		}
	}
}

// lots draws calls: so many names on the first level and on others, so many levels at most.
type lots struct {
	*rand.Rand
	first, names, levels int
}

// path is one of those that there are, one beside it, or any.
func (l lots) path(there []string) string {
	if len(there) > 0 && l.Intn(8) > 0 {
		s := there[l.Intn(len(there))]
		if l.Intn(3) > 0 {
			return s
		}
		if strings.Count(s, "/") <= l.levels {
			s += "/x"
		}
		return s[:strings.LastIndex(s, "/")+1] + string(rune('a'+l.Intn(l.names)))
	}
	s := "/" + string(rune('A'+l.Intn(l.first)))
	for range l.Intn(l.levels + 1) {
		s += "/" + string(rune('a'+l.Intn(l.names)))
	}
	return s
}

func (l lots) call(there []string) api.Call {
	kinds := []int{1, 1, 1, 2, 2, 2, 3, 3, 4, 4, 5, 5, 6, 6, 6, 6, 6, 7, 8, 8, 8, 8, 9, 9, 10, 11, 12, 12, 13}
	c := api.Call{Kind: kinds[l.Intn(len(kinds))], Path: l.path(there), To: l.path(there)}
	if c.Kind == api.CSync && l.Intn(2) > 0 {
		c.Kind = api.CWrite
	}
	far := []int{0, 0, 0, 0, 8, 8 + 255, 8 + 256, 8 + 512}[l.Intn(8)] * 1024
	switch c.Kind {
	case api.CRead, api.CWrite:
		c.Off, c.N = l.Intn(4)*700+far, l.Intn(3000)
		c.Data = make([]byte, l.Intn(1500)>>l.Intn(8))
		l.Read(c.Data)
	case api.CTrunc:
		c.N = l.Intn(3000) + far
	}
	return c
}
