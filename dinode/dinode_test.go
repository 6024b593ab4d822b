package dinode

import (
	"bytes"
	"encoding/binary"
	"math"
	"slices"
	"testing"

	"lockgate/api"
)

// bytesOf is an inode's bytes as the promise says them, put together number by number.
func bytesOf(i api.Inode) []byte {
	b := binary.LittleEndian.AppendUint16(nil, uint16(i.Kind))
	b = binary.LittleEndian.AppendUint16(b, uint16(i.Links))
	b = binary.LittleEndian.AppendUint32(b, uint32(i.Size))
	for _, p := range i.Direct {
		b = binary.LittleEndian.AppendUint32(b, uint32(p))
	}
	b = binary.LittleEndian.AppendUint32(b, uint32(i.Single))
	b = binary.LittleEndian.AppendUint32(b, uint32(i.Double))
	return append(b, make([]byte, 16)...)
}

// setters set one number of an inode each, all of them but Kind: first Links, the one of two bytes.
func setters() []func(*api.Inode, int) {
	out := []func(*api.Inode, int){
		func(i *api.Inode, n int) { i.Links = n },
		func(i *api.Inode, n int) { i.Size = n },
		func(i *api.Inode, n int) { i.Single = n },
		func(i *api.Inode, n int) { i.Double = n },
	}
	for k := range 8 {
		out = append(out, func(i *api.Inode, n int) { i.Direct[k] = n })
	}
	return out
}

// greatest is the greatest number that one of the setters may set.
func greatest(setter int) int {
	if setter == 0 {
		return 65535
	}
	return 1<<32 - 1
}

// fine are inodes that may be: of each kind, with each number at its edges and in between.
func fine() []api.Inode {
	out := []api.Inode{{}, {Kind: 1}, {Kind: 2}, full(1), full(2), unlike(1), unlike(2)}
	for _, kind := range []int{1, 2} {
		for k, set := range setters() {
			for _, n := range []int{1, 255, 256, 32000, 32767, 32768, 65535, 65536, 1 << 24, api.MaxSize, api.MaxSize + 1, 1<<31 - 1, 1 << 31, 1<<32 - 1} {
				i := unlike(kind)
				set(&i, min(n, greatest(k)))
				out = append(out, i)
			}
		}
	}
	return out
}

// full has the greatest number everywhere.
func full(kind int) api.Inode {
	i := api.Inode{Kind: kind}
	for k, set := range setters() {
		set(&i, greatest(k))
	}
	return i
}

// unlike has another number everywhere, and in each of its bytes.
func unlike(kind int) api.Inode {
	i := api.Inode{Kind: kind}
	for k, set := range setters() {
		set(&i, (0x04030201+k*0x10101010)&greatest(k))
	}
	return i
}

func isRefused(t *testing.T, i api.Inode) {
	t.Helper()
	if b, err := Pack(i); err != api.ErrArg || b != nil {
		t.Errorf("Pack(%+v): %d, %v", i, err, b)
	}
}

func isNone(t *testing.T, what string, b []byte) {
	t.Helper()
	if i, err := Read(b); err != api.ErrByte || i != (api.Inode{}) {
		t.Errorf("%s: Read(%v): %d, %+v", what, b, err, i)
	}
}

// P501

func TestPackWritesTheInode(t *testing.T) {
	i := api.Inode{Kind: 2, Links: 0x0102, Size: 0x03040506, Direct: [8]int{10, 11, 12, 13, 14, 15, 16, 17}, Single: 0x0708090a, Double: 1<<32 - 2}
	want := []byte{
		2, 0, 2, 1, 6, 5, 4, 3,
		10, 0, 0, 0, 11, 0, 0, 0, 12, 0, 0, 0, 13, 0, 0, 0, 14, 0, 0, 0, 15, 0, 0, 0, 16, 0, 0, 0, 17, 0, 0, 0,
		10, 9, 8, 7, 254, 255, 255, 255,
		0, 0, 0, 0, 0, 0, 0, 0, 0, 0, 0, 0, 0, 0, 0, 0,
	}
	if b, err := Pack(i); err != api.OK || !bytes.Equal(b, want) {
		t.Errorf("%d, %v", err, b)
	}
	for _, i := range fine() {
		if b, err := Pack(i); err != api.OK || len(b) != 64 || !bytes.Equal(b, bytesOf(i)) {
			t.Errorf("Pack(%+v): %d, %v", i, err, b)
		}
	}
}

func TestPackOfAFreeOne(t *testing.T) {
	if b, err := Pack(api.Inode{}); err != api.OK || !bytes.Equal(b, make([]byte, 64)) {
		t.Errorf("%d, %v", err, b)
	}
	for k, set := range setters() {
		for _, n := range []int{1, 256, greatest(k), -1, 1 << 32} {
			i := api.Inode{}
			set(&i, n)
			isRefused(t, i)
		}
	}
}

func TestPackRefusesKinds(t *testing.T) {
	for _, kind := range []int{3, 4, 255, 256, 257, 65535, 65536, 65537, 65538, 1<<32 + 1, -1, -2, -65535, math.MinInt, math.MaxInt} {
		isRefused(t, api.Inode{Kind: kind})
		isRefused(t, unlike(kind))
	}
}

func TestPackRefusesNumbers(t *testing.T) {
	for _, kind := range []int{1, 2} {
		for k, set := range setters() {
			for _, n := range []int{-1, -256, -65536, -1 << 32, math.MinInt, math.MinInt + 1, greatest(k) + 1, greatest(k) + 2, 1 << 32, 1<<32 + 1, 1 << 40, math.MaxInt} {
				i := unlike(kind)
				set(&i, n)
				isRefused(t, i)
			}
		}
	}
}

func TestReadOfPackIsTheInode(t *testing.T) {
	for _, i := range fine() {
		b, _ := Pack(i)
		if got, err := Read(b); err != api.OK || got != i {
			t.Errorf("Read of Pack(%+v): %d, %+v", i, err, got)
		}
	}
}

func TestReadTakesBytesThatPackWouldAnswer(t *testing.T) {
	for _, i := range fine() {
		if got, err := Read(bytesOf(i)); err != api.OK || got != i {
			t.Errorf("Read of the bytes of %+v: %d, %+v", i, err, got)
		}
	}
	if i, err := Read(make([]byte, 64)); err != api.OK || i != (api.Inode{}) {
		t.Errorf("64 bytes 0: %d, %+v", err, i)
	}
}

func TestReadRefusesOtherLengths(t *testing.T) {
	isNone(t, "nil", nil)
	for _, long := range [][]byte{make([]byte, 1024), append(bytesOf(unlike(1)), make([]byte, 960)...)} {
		for _, n := range []int{0, 1, 3, 4, 47, 48, 62, 63, 65, 128, 1024} {
			isNone(t, "a length", long[:n])
		}
	}
}

func TestReadRefusesKinds(t *testing.T) {
	for kind := 3; kind < 1<<16; kind++ {
		isNone(t, "a kind", bytesOf(unlike(kind)))
		isNone(t, "a kind, and all else 0", bytesOf(api.Inode{Kind: kind}))
	}
	isNone(t, "a free one with numbers", bytesOf(unlike(0)))
}

func TestReadRefusesSpareBytes(t *testing.T) {
	for _, i := range []api.Inode{{}, {Kind: 1}, full(1), unlike(2)} {
		for at := 48; at < 64; at++ {
			for bit := range 8 {
				b := bytesOf(i)
				b[at] = 1 << bit
				isNone(t, "a byte that must be 0", b)
			}
		}
	}
}

func TestReadRefusesAFreeOneThatHasAnything(t *testing.T) {
	for at := 2; at < 64; at++ {
		for bit := range 8 {
			b := make([]byte, 64)
			b[at] = 1 << bit
			isNone(t, "a free one", b)
		}
	}
}

// TestReadOfAnyBytes: each turned bit of an inode's numbers makes another inode, with that bit turned.
func TestReadOfAnyBytes(t *testing.T) {
	for _, i := range []api.Inode{unlike(1), unlike(2), full(1), {Kind: 2}} {
		for at := 2; at < 48; at++ {
			for bit := range 8 {
				b := bytesOf(i)
				b[at] ^= 1 << bit
				got, err := Read(b)
				if err != api.OK || got == i || !bytes.Equal(bytesOf(got), b) {
					t.Errorf("Read(%v): %d, %+v", b, err, got)
				}
			}
		}
	}
}

// P502

// blockOf is an indirect block as the promise says it.
func blockOf(l []int) []byte {
	var b []byte
	for k := range 256 {
		n := uint32(0)
		if k < len(l) {
			n = uint32(l[k])
		}
		b = binary.LittleEndian.AppendUint32(b, n)
	}
	return b
}

// many are n pointers, none like another, with the edges among them.
func many(n int) []int {
	edges := []int{1<<32 - 1, 0, 1 << 31, 1<<31 - 1, 65536, 65535, 256, 255, 1}
	var l []int
	for k := range n {
		if k < len(edges) {
			l = append(l, edges[k])
		} else {
			l = append(l, 0x01020304*(k%64+1)+k)
		}
	}
	return l
}

func TestPackPointersWritesTheBlock(t *testing.T) {
	want := append([]byte{1, 0, 0, 0, 4, 3, 2, 1, 255, 255, 255, 255}, make([]byte, 1012)...)
	if b, err := PackPointers([]int{1, 0x01020304, 1<<32 - 1}); err != api.OK || !bytes.Equal(b, want) {
		t.Errorf("%d, %v", err, b)
	}
	for n := range 257 {
		if b, err := PackPointers(many(n)); err != api.OK || len(b) != 1024 || !bytes.Equal(b, blockOf(many(n))) {
			t.Errorf("%d pointers: %d, %v", n, err, b)
		}
	}
	for _, l := range [][]int{nil, {}, {0}, make([]int, 256)} {
		if b, err := PackPointers(l); err != api.OK || !bytes.Equal(b, make([]byte, 1024)) {
			t.Errorf("%d zeros: %d, %v", len(l), err, b)
		}
	}
}

func TestPackPointersRefuses(t *testing.T) {
	for _, n := range []int{257, 258, 512, 1024, 5000} {
		if b, err := PackPointers(make([]int, n)); err != api.ErrArg || b != nil {
			t.Errorf("%d pointers: %d, %v", n, err, b)
		}
	}
	for _, bad := range []int{-1, -2, -1 << 31, -1 << 32, math.MinInt, 1 << 32, 1<<32 + 1, 1 << 40, math.MaxInt} {
		for _, at := range []int{0, 1, 100, 254, 255} {
			l := many(256)
			l[at] = bad
			if b, err := PackPointers(l); err != api.ErrArg || b != nil {
				t.Errorf("%d at %d: %d, %v", bad, at, err, b)
			}
			if b, err := PackPointers(l[:at+1]); err != api.ErrArg || b != nil {
				t.Errorf("%d at the end: %d, %v", bad, err, b)
			}
		}
	}
}

func TestPointersOfABlock(t *testing.T) {
	for _, n := range []int{0, 1, 2, 9, 100, 255, 256} {
		want := append(many(n), make([]int, 256-n)...)
		if got := Pointers(blockOf(many(n))); !slices.Equal(got, want) {
			t.Errorf("%d pointers: %v", n, got)
		}
		b, _ := PackPointers(many(n))
		if got := Pointers(b); !slices.Equal(got, want) {
			t.Errorf("of PackPointers of %d pointers: %v", n, got)
		}
	}
	all := Pointers(bytes.Repeat([]byte{255}, 1024))
	if len(all) != 256 || slices.Min(all) != 1<<32-1 || slices.Max(all) != 1<<32-1 {
		t.Errorf("of bytes 255: %v", all)
	}
}

func TestPointersOfEachByte(t *testing.T) {
	for at := range 1024 {
		b := make([]byte, 1024)
		b[at] = 129
		want := make([]int, 256)
		want[at/4] = 129 << (8 * (at % 4))
		if got := Pointers(b); !slices.Equal(got, want) {
			t.Errorf("byte %d: %v", at, got)
		}
	}
}

func TestPointersOfOtherLengths(t *testing.T) {
	if l := Pointers(nil); l != nil {
		t.Errorf("nil: %v", l)
	}
	for _, n := range []int{0, 1, 4, 512, 1020, 1023, 1025, 1028, 2048} {
		if l := Pointers(make([]byte, n, 4096)); l != nil {
			t.Errorf("%d bytes: %v", n, l)
		}
	}
}

// P503

// spoil overwrites a list and its spare room.
func spoil[T any](l []T, with T) {
	l = l[:cap(l)]
	for i := range l {
		l[i] = with
	}
}

func TestWhatIsHandedInStaysAsItIs(t *testing.T) {
	inode := append(bytesOf(unlike(1)), 1, 2, 3)
	block := append(blockOf(many(256)), 1, 2, 3)
	list := many(300)
	wantInode, wantBlock, wantList := bytes.Clone(inode), bytes.Clone(block), slices.Clone(list)
	for _, n := range []int{0, 63, 64, 65, 67} {
		Read(inode[:n])
	}
	for _, n := range []int{0, 1023, 1024, 1025, 1027} {
		Pointers(block[:n])
	}
	for _, n := range []int{0, 1, 255, 256, 257, 300} {
		PackPointers(list[:n])
	}
	if !bytes.Equal(inode, wantInode) || !bytes.Equal(block, wantBlock) || !slices.Equal(list, wantList) {
		t.Error("an argument was changed")
	}
}

func TestAnswersAreNewMemory(t *testing.T) {
	list := many(256)
	block, _ := PackPointers(list)
	got := Pointers(block)
	spoil(got, -7)
	if !bytes.Equal(block, blockOf(many(256))) {
		t.Error("Pointers shares memory with its argument")
	}
	spoil(block, 170)
	if !slices.Equal(list, many(256)) {
		t.Error("PackPointers shares memory with its argument")
	}
}

// TestAnswersHangOnArgumentsAlone: neither what was answered ahead, nor spare room, nor what lies in it, is to be seen.
func TestAnswersHangOnArgumentsAlone(t *testing.T) {
	for range 2 {
		for _, i := range fine() {
			b, err := Pack(i)
			if err != api.OK || !bytes.Equal(b, bytesOf(i)) {
				t.Errorf("Pack(%+v): %d, %v", i, err, b)
			}
			roomy := append(bytes.Clone(b), 1, 2, 3)[:64]
			if got, err := Read(roomy); err != api.OK || got != i {
				t.Errorf("Read(%v): %d, %+v", roomy, err, got)
			}
			spoil(b, 170)
		}
		roomy := append(many(3), -1, 1<<32)[:3]
		b, err := PackPointers(roomy)
		if err != api.OK || !bytes.Equal(b, blockOf(many(3))) {
			t.Errorf("PackPointers: %d, %v", err, b)
		}
		l := Pointers(b)
		if !slices.Equal(l, append(many(3), make([]int, 253)...)) {
			t.Errorf("Pointers: %v", l)
		}
		spoil(b, 170)
		spoil(l, -7)
	}
}
