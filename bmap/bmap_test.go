package bmap

import (
	"math"
	"testing"

	"lockgate/api"
)

func TestFirst(t *testing.T) {
	for _, c := range []struct{ level, i, want int }{
		{0, 0, 0}, {0, 1, 1}, {0, 7, 7}, {1, 0, 8}, {2, 0, 264}, {2, 1, 520}, {2, 255, 65544},
	} {
		if got, ok := First(c.level, c.i); !ok || got != c.want {
			t.Errorf("First(%d, %d): %d, %v", c.level, c.i, got, ok)
		}
	}
}

func TestFirstOfNone(t *testing.T) {
	for _, c := range [][2]int{
		{0, -1}, {0, 8}, {1, -1}, {1, 1}, {2, -1}, {2, 256}, {3, 0}, {-1, 0},
		{0, math.MinInt}, {0, math.MaxInt}, {1, math.MinInt}, {2, math.MaxInt}, {2, math.MinInt}, {math.MaxInt, 0}, {math.MinInt, 0},
	} {
		if got, ok := First(c[0], c[1]); ok || got != 0 {
			t.Errorf("First(%d, %d): %d, %v", c[0], c[1], got, ok)
		}
	}
}

func TestCount(t *testing.T) {
	for size, want := range map[int]int{
		0: 0, 1: 1, 1023: 1, 1024: 1, 1025: 2, 2048: 2, api.MaxSize - 1024: 65799, api.MaxSize - 1023: 65800, api.MaxSize: 65800,
		api.MaxSize + 1: 0, -1: 0, -1024: 0, math.MaxInt: 0, math.MinInt: 0, 1 << 32: 0,
	} {
		if got := Count(size); got != want {
			t.Errorf("Count(%d): %d, not %d", size, got, want)
		}
	}
}
