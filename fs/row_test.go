package fs

import (
	"slices"
	"testing"

	"lockgate/deps"
)

func TestRow(t *testing.T) {
	var r row[string]
	for _, s := range []string{"a", "b", "a", "c", "b"} {
		r.push(s)
	}
	if r.size() != 3 || r.pop() != "a" || r.pop() != "b" {
		t.Error("what came first goes first, once")
	}
	r.push("a")
	if r.size() != 2 || r.pop() != "c" || r.pop() != "a" || r.size() != 0 {
		t.Error("what went may come again")
	}
}

func TestLatest(t *testing.T) {
	var l latest[string]
	if len(l.of("a")) != 0 {
		t.Error("nothing was told")
	}
	g := deps.New()
	for k := range 6 {
		g.Add(k, nil)
	}
	ids := []int{0, 1}
	l.set(g, "a", ids)
	clear(ids)
	l.of("a")[1] = 7
	if !slices.Equal(l.of("a"), []int{0, 1}) {
		t.Error("it is not its own")
	}
	l.set(g, "b", []int{2})
	l.set(g, "a", []int{3})
	if !slices.Equal(l.of("a"), []int{3}) || !slices.Equal(l.of("b"), []int{2}) {
		t.Error("the last one counts")
	}
	for k := range 6 {
		if k != 2 {
			g.Written(k)
		}
	}
	l.set(g, "c", []int{4})
	l.set(g, "d", []int{5})
	if _, ok := l.changes["a"]; ok || !slices.Equal(l.of("b"), []int{2}) {
		t.Error("what is done is kept, or what is not is forgotten")
	}
}
