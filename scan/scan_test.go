package scan

import (
	"bytes"
	"testing"

	"lockgate/api"
	"lockgate/fsck"
	"lockgate/mkfs"
)

func image(t *testing.T) []byte {
	b, err := mkfs.Image(api.Geometry{Groups: 2, Inodes: 1, Data: 8})
	if err != api.OK {
		t.Fatal(err)
	}
	return b
}

func TestOfAnEmptyFileSystem(t *testing.T) {
	if b := image(t); !Clean(b) || Faults(b) != 0 {
		t.Errorf("%v, %d", Clean(b), Faults(b))
	}
}

func TestOfFaults(t *testing.T) {
	// Root's links; a bit of each head; an entry; and a data block that nobody has, of which nothing is asked.
	for k, at := range []int{2*1024 + 2, 1024 + 64, 11*1024 + 16, 3*1024 + 100} {
		b := image(t)
		b[9*1024] = 7
		b[at] ^= 1
		given := bytes.Clone(b)
		if Clean(b) || Faults(b) != 1 {
			t.Errorf("fault %d: %v, %d", k, Clean(b), Faults(b))
		}
		if !bytes.Equal(b, given) {
			t.Error("the argument was changed")
		}
		fixed, _, _ := fsck.Repair(b)
		if !Clean(fixed) || Faults(fixed) != 0 {
			t.Errorf("fault %d, repaired: %d", k, Faults(fixed))
		}
	}
	b := image(t)
	b[2*1024+2], b[1024+64], b[11*1024+16], b[3*1024+100] = 1, 0, 1, 1
	if Clean(b) || Faults(b) != 4 {
		t.Errorf("all of them: %v, %d", Clean(b), Faults(b))
	}
}

func TestOfWhatIsNotUsable(t *testing.T) {
	b := image(t)
	turned := bytes.Clone(b)
	turned[0] ^= 1
	for _, x := range [][]byte{nil, {}, b[:1024], b[1024:], b[:len(b)-1], append(bytes.Clone(b), 0), turned} {
		if Clean(x) || Faults(x) != -1 {
			t.Errorf("%d bytes: %v, %d", len(x), Clean(x), Faults(x))
		}
	}
}
