package rules

import (
	"bytes"
	"testing"

	"lockgate/api"
	"lockgate/super"
)

func TestUsable(t *testing.T) {
	for _, want := range []api.Geometry{{Groups: 1, Inodes: 1, Data: 8}, {Groups: 2, Inodes: 4, Data: 100}} {
		b, _ := super.Pack(want)
		size := (1 + want.Groups*(1+want.Inodes+want.Data)) * 1024
		image := append(b, bytes.Repeat([]byte{7}, size)...)
		if g, ok := Usable(image[:size]); !ok || g != want {
			t.Errorf("%+v: %+v, %v", want, g, ok)
		}
		for _, n := range []int{0, 1, 1023, 1024, 1025, size - 1024, size - 1, size + 1, size + 1023, size + 1024} {
			if g, ok := Usable(image[:n]); ok || g != (api.Geometry{}) {
				t.Errorf("%+v in %d bytes: %+v", want, n, g)
			}
		}
		image[1023] = 1
		if g, ok := Usable(image[:size]); ok || g != (api.Geometry{}) {
			t.Errorf("no superblock: %+v", g)
		}
	}
	if _, ok := Usable(nil); ok {
		t.Error("nil")
	}
}
