package number

import (
	"bytes"
	"math"
	"slices"
	"testing"
)

func TestWidth(t *testing.T) {
	if two, four := Width[uint16](), Width[uint32](); two != 2 || four != 4 {
		t.Errorf("%d, %d", two, four)
	}
}

func TestFits(t *testing.T) {
	for n, want := range map[int][2]bool{
		0: {true, true}, 1: {true, true}, 255: {true, true}, 65535: {true, true},
		65536: {false, true}, 1<<32 - 1: {false, true},
		1 << 32: {}, 1<<32 + 1: {}, 1 << 62: {}, math.MaxInt: {}, -1: {}, -65535: {}, -1 << 32: {}, math.MinInt: {},
	} {
		if got := [2]bool{Fits[uint16](n), Fits[uint32](n)}; got != want {
			t.Errorf("%d: %v", n, got)
		}
		if got := [2]bool{Fits[uint16](7, n, 8), Fits[uint32](7, n, 8)}; got != want {
			t.Errorf("%d among others: %v", n, got)
		}
	}
	if !Fits[uint16]() || !Fits[uint32]() {
		t.Error("an empty list")
	}
}

func TestPut(t *testing.T) {
	b := bytes.Repeat([]byte{9}, 9)
	if n := Put[uint16](b, 0x0102, 0xfffe); n != 4 || !bytes.Equal(b, []byte{2, 1, 254, 255, 9, 9, 9, 9, 9}) {
		t.Errorf("%d, %v", n, b)
	}
	if n := Put[uint32](b[1:], 0x01020304, 0xfffefdfc); n != 8 || !bytes.Equal(b, []byte{2, 4, 3, 2, 1, 252, 253, 254, 255}) {
		t.Errorf("%d, %v", n, b)
	}
	if n := Put[uint32](nil); n != 0 {
		t.Errorf("of no number: %d", n)
	}
}

func TestGetAndAll(t *testing.T) {
	b := []byte{4, 3, 2, 1, 252, 253, 254, 255, 0, 0, 0}
	if two, four := Get[uint16](b), Get[uint32](b[4:]); two != 0x0304 || four != 0xfffefdfc {
		t.Errorf("%x, %x", two, four)
	}
	if got := All[uint16](b); !slices.Equal(got, []int{0x0304, 0x0102, 0xfdfc, 0xfffe, 0}) {
		t.Errorf("%x", got)
	}
	if got := All[uint32](b); !slices.Equal(got, []int{0x01020304, 0xfffefdfc}) {
		t.Errorf("%x", got)
	}
	if got := All[uint32](b[:3]); len(got) != 0 {
		t.Errorf("%x", got)
	}
}
