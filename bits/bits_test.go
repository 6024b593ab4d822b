package bits

import (
	"bytes"
	"math"
	"testing"
)

// rows are bytes of many shapes, an empty row among them.
func rows() [][]byte {
	return [][]byte{
		nil, {}, {0}, {255}, {1}, {128}, {255, 1}, {0, 0, 0}, {255, 255, 255},
		{0b10110010, 0b00001111, 0b10000000, 0b01010101}, {254, 127, 0, 255, 1},
	}
}

// bitsOf writes a row out as single bits by another way than the package: byte by byte, halving.
func bitsOf(b []byte) []bool {
	var out []bool
	for _, x := range b {
		for range 8 {
			out = append(out, x%2 == 1)
			x /= 2
		}
	}
	return out
}

func bytesOf(row []bool) []byte {
	out := make([]byte, len(row)/8)
	for i, on := range row {
		if on {
			out[i/8] += byte(math.Pow(2, float64(i%8)))
		}
	}
	return out
}

// odd are places at which there is no bit, whatever the row.
func odd() []int {
	return []int{-1, -7, -8, -9, math.MinInt, math.MinInt + 1, 1 << 40, math.MaxInt, math.MaxInt - 7}
}

// P201

func TestGetHasTheLowestBitFirst(t *testing.T) {
	b := []byte{0b00000001, 0b10000000, 0b00000100}
	for i := range 24 {
		if want := i == 0 || i == 15 || i == 18; Get(b, i) != want {
			t.Errorf("bit %d is %v", i, !want)
		}
	}
}

func TestGetOfEachBit(t *testing.T) {
	for _, b := range rows() {
		for i, want := range bitsOf(b) {
			if Get(b, i) != want {
				t.Errorf("Get(%v, %d) is not %v", b, i, want)
			}
		}
	}
}

func TestGetOfNoSuchBit(t *testing.T) {
	for _, b := range rows() {
		for _, i := range append(odd(), len(b)*8, len(b)*8+1, len(b)*8+8) {
			if Get(b[:len(b):len(b)], i) {
				t.Errorf("Get(%v, %d): there is no such bit", b, i)
			}
		}
	}
	roomy := []byte{255, 255}
	if Get(roomy[:1], 8) {
		t.Error("a bit of the spare room is told")
	}
}

func TestWithTurnsOneBit(t *testing.T) {
	for _, b := range rows() {
		for i := range len(b) * 8 {
			for _, on := range []bool{true, false} {
				want := bitsOf(b)
				want[i] = on
				if got := With(b, i, on); !bytes.Equal(got, bytesOf(want)) {
					t.Errorf("With(%v, %d, %v): %v", b, i, on, got)
				}
			}
		}
	}
}

func TestWithNoSuchBit(t *testing.T) {
	for _, b := range rows() {
		for _, i := range append(odd(), len(b)*8, len(b)*8+7) {
			for _, on := range []bool{true, false} {
				if got := With(b, i, on); !bytes.Equal(got, b) {
					t.Errorf("With(%v, %d, %v): %v", b, i, on, got)
				}
			}
		}
	}
}

func TestCountOfTheFirstBits(t *testing.T) {
	for _, b := range rows() {
		want := 0
		for n, on := range append(bitsOf(b), false) {
			if got := Count(b, n); got != want {
				t.Errorf("Count(%v, %d): %d, want %d", b, n, got, want)
			}
			if on {
				want++
			}
		}
		for _, n := range []int{len(b)*8 + 1, 1 << 40, math.MaxInt} {
			if got := Count(b, n); got != want {
				t.Errorf("Count(%v, %d): %d, want %d", b, n, got, want)
			}
		}
		for _, n := range []int{0, -1, -8, math.MinInt} {
			if got := Count(b, n); got != 0 {
				t.Errorf("Count(%v, %d): %d, want 0", b, n, got)
			}
		}
	}
	roomy := []byte{1, 255}
	if Count(roomy[:1], 16) != 1 {
		t.Error("bits of the spare room are counted")
	}
}

// firstOf is First as the promise says it, over single bits.
func firstOf(b []byte, n, from int) (int, bool) {
	for i, on := range bitsOf(b) {
		if i >= from && i < n && !on {
			return i, true
		}
	}
	return 0, false
}

func TestFirstOfAllPlaces(t *testing.T) {
	for _, b := range rows() {
		ends := odd()
		for i := range len(b)*8 + 3 {
			ends = append(ends, i)
		}
		for _, n := range ends {
			for _, from := range ends {
				at, ok := First(b, n, from)
				if wantAt, want := firstOf(b, n, from); at != wantAt || ok != want {
					t.Errorf("First(%v, %d, %d): %d, %v, want %d, %v", b, n, from, at, ok, wantAt, want)
				}
			}
		}
	}
}

func TestFirstOfTheExample(t *testing.T) {
	if at, ok := First([]byte{255, 1}, 16, 0); at != 9 || !ok {
		t.Errorf("%d, %v", at, ok)
	}
}

func TestFirstDoesNotLookIntoTheSpareRoom(t *testing.T) {
	roomy := []byte{255, 0}
	if at, ok := First(roomy[:1], 16, 0); at != 0 || ok {
		t.Errorf("%d, %v", at, ok)
	}
}

// P202

func TestWhatIsHandedInStaysAsItIs(t *testing.T) {
	for _, row := range rows() {
		roomy := append(bytes.Clone(row), 170, 85)
		want, b := bytes.Clone(roomy), roomy[:len(row)]
		for i := -2; i < len(roomy)*8+2; i++ {
			Get(b, i)
			With(b, i, true)
			With(b, i, false)
			Count(b, i)
			First(b, i, 0)
			First(b, 99, i)
		}
		if !bytes.Equal(roomy, want) {
			t.Errorf("%v became %v", want, roomy)
		}
	}
}

func TestWithAnswersNewMemory(t *testing.T) {
	for _, i := range []int{-1, 0, 3, 15, 16, math.MaxInt} {
		roomy := []byte{5, 6, 7}
		b := roomy[:2]
		got := With(b, i, true)
		got = append(got[:cap(got)], 1)
		for j := range got {
			got[j] = 200
		}
		if !bytes.Equal(roomy, []byte{5, 6, 7}) {
			t.Errorf("With(.., %d, true) shares memory with its argument: %v", i, roomy)
		}
	}
}

func TestAnswersHangOnArgumentsAlone(t *testing.T) {
	b := []byte{0b10110010, 0b00001111}
	first := With(b, 0, true)
	kept := bytes.Clone(first)
	With(b, 1, false)
	With(first, 2, true)
	if !bytes.Equal(first, kept) || !bytes.Equal(With(b, 0, true), kept) {
		t.Error("a later call changes an answer")
	}
	roomy := append(make([]byte, 0, 64), b...)
	for i := -1; i < 20; i++ {
		at, ok := First(b, 16, i)
		again, too := First(roomy, 16, i)
		if at != again || ok != too || Get(b, i) != Get(roomy, i) || Count(b, i) != Count(roomy, i) {
			t.Errorf("%d: the answer hangs on a capacity", i)
		}
	}
}
