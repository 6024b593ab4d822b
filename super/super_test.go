package super

import (
	"bytes"
	"encoding/binary"
	"math"
	"testing"

	"lockgate/api"
	"lockgate/bits"
)

// fine are geometries that may be, the least and the greatest among them, with rows of data bits that end within a byte and at its end.
func fine() []api.Geometry {
	var out []api.Geometry
	for _, groups := range []int{1, 2, 7, 8} {
		for inodes := 1; inodes <= 4; inodes++ {
			for _, data := range []int{8, 9, 12, 15, 16, 17, 255, 256, 300, 993, 999, 1000} {
				out = append(out, api.Geometry{Groups: groups, Inodes: inodes, Data: data})
			}
		}
	}
	return out
}

// refused are geometries that break one bound each, or all.
func refused() []api.Geometry {
	out := []api.Geometry{{}, {Groups: 1}, {Inodes: 1}, {Data: 8}}
	far := []int{0, -1, math.MinInt, math.MaxInt, 1 << 16, 1 << 31, 1<<32 + 1, 1<<32 + 8}
	for _, n := range append([]int{9}, far...) {
		out = append(out, api.Geometry{Groups: n, Inodes: 1, Data: 8}, api.Geometry{Groups: n, Inodes: n, Data: n})
	}
	for _, n := range append([]int{5}, far...) {
		out = append(out, api.Geometry{Groups: 1, Inodes: n, Data: 8})
	}
	for _, n := range append([]int{1, 7, 1001}, far...) {
		out = append(out, api.Geometry{Groups: 8, Inodes: 4, Data: n})
	}
	return out
}

// superOf is a superblock as the promise says it, also of numbers that no disk may have.
func superOf(groups, inodes, data uint32) []byte {
	b := []byte("LOCKGATE")
	for _, n := range []uint32{groups, inodes, data} {
		b = binary.LittleEndian.AppendUint32(b, n)
	}
	all := uint32(0)
	for _, x := range b {
		all += uint32(x)
	}
	b = binary.LittleEndian.AppendUint32(b, all)
	return append(b, make([]byte, 1000)...)
}

func isNoSuper(t *testing.T, what string, b []byte) {
	t.Helper()
	if g, err := Read(b); err != api.ErrSuper || g != (api.Geometry{}) {
		t.Errorf("%s: Read answers %+v, %d", what, g, err)
	}
}

// P401

func TestPackWritesTheSuperblock(t *testing.T) {
	b, err := Pack(api.Geometry{Groups: 8, Inodes: 4, Data: 1000})
	want := append([]byte("LOCKGATE"), 8, 0, 0, 0, 4, 0, 0, 0, 232, 3, 0, 0, 65, 3, 0, 0)
	if err != api.OK || len(b) != 1024 || !bytes.Equal(b[:24], want) || !bytes.Equal(b[24:], make([]byte, 1000)) {
		t.Errorf("%d, %d bytes, %v", err, len(b), b)
	}
	for _, g := range fine() {
		b, err := Pack(g)
		if err != api.OK || !bytes.Equal(b, superOf(uint32(g.Groups), uint32(g.Inodes), uint32(g.Data))) {
			t.Errorf("Pack(%+v): %d, %v", g, err, b)
		}
	}
}

func TestPackRefuses(t *testing.T) {
	for _, g := range refused() {
		if b, err := Pack(g); err != api.ErrArg || len(b) != 0 {
			t.Errorf("Pack(%+v): %d, %d bytes", g, err, len(b))
		}
	}
}

func TestReadOfPackIsTheGeometry(t *testing.T) {
	for groups := 1; groups <= 8; groups++ {
		for inodes := 1; inodes <= 4; inodes++ {
			for data := 8; data <= 1000; data++ {
				g := api.Geometry{Groups: groups, Inodes: inodes, Data: data}
				b, _ := Pack(g)
				if got, err := Read(b); err != api.OK || got != g {
					t.Fatalf("Read of Pack(%+v): %+v, %d", g, got, err)
				}
			}
		}
	}
}

func TestReadTakesBytesThatPackWouldAnswer(t *testing.T) {
	if g, err := Read(superOf(2, 3, 513)); err != api.OK || g != (api.Geometry{Groups: 2, Inodes: 3, Data: 513}) {
		t.Errorf("%+v, %d", g, err)
	}
}

func TestReadRefusesEachTurnedBit(t *testing.T) {
	for _, g := range []api.Geometry{{Groups: 1, Inodes: 1, Data: 8}, {Groups: 2, Inodes: 3, Data: 300}} {
		b, _ := Pack(g)
		for i := range b {
			for bit := range 8 {
				c := bytes.Clone(b)
				c[i] ^= 1 << bit
				isNoSuper(t, "a turned bit", c)
			}
		}
	}
}

func TestReadRefusesARightSumOfAWrongName(t *testing.T) {
	b, _ := Pack(api.Geometry{Groups: 1, Inodes: 1, Data: 8})
	b[0], b[1] = b[1], b[0]
	isNoSuper(t, "a name whose letters are swapped", b)
}

func TestReadRefusesARightSumOfNoGeometry(t *testing.T) {
	far := []uint32{0, 1 << 8, 1 << 16, 1 << 24, 1 << 31, 1<<31 - 1, 1<<32 - 1}
	for _, n := range append([]uint32{9, 257}, far...) {
		isNoSuper(t, "groups", superOf(n, 1, 8))
	}
	for _, n := range append([]uint32{5, 257}, far...) {
		isNoSuper(t, "inodes", superOf(1, n, 8))
	}
	for _, n := range append([]uint32{1, 7, 1001, 1<<16 + 8}, far...) {
		if n != 256 {
			isNoSuper(t, "data", superOf(1, 1, n))
		}
	}
}

func TestReadRefusesOtherLengths(t *testing.T) {
	b, _ := Pack(api.Geometry{Groups: 1, Inodes: 1, Data: 8})
	long := append(bytes.Clone(b), make([]byte, 1024)...)
	for _, n := range []int{0, 1, 7, 8, 19, 20, 23, 24, 512, 1023, 1025, 2048} {
		isNoSuper(t, "a length", long[:n])
	}
	isNoSuper(t, "nil", nil)
	isNoSuper(t, "zeros", make([]byte, 1024))
	head, _ := Head(api.Geometry{Groups: 1, Inodes: 1, Data: 8}, 0, nil, nil)
	isNoSuper(t, "a head", head)
}

// P402

// rows are rows of bits: none, short ones, full ones, longer ones than any head has.
func rows() [][]byte {
	noise := make([]byte, 200)
	for i := range noise {
		noise[i] = byte(i*i*7 + i*13 + 5)
	}
	return [][]byte{
		nil, {}, {0}, {1}, {3}, {128}, {1, 255, 255}, noise, noise[:5],
		bytes.Repeat([]byte{255}, 7), bytes.Repeat([]byte{255}, 8), bytes.Repeat([]byte{255}, 9),
		bytes.Repeat([]byte{255}, 124), bytes.Repeat([]byte{255}, 125), bytes.Repeat([]byte{255}, 2000),
	}
}

// rowOf is the first n bits of b in size bytes, bit by bit.
func rowOf(b []byte, n, size int) []byte {
	out := make([]byte, size)
	for i := 0; i < n; i++ {
		if i/8 < len(b) && b[i/8]>>(i%8)%2 == 1 {
			out[i/8] += 1 << (i % 8)
		}
	}
	return out
}

// headWith is a head as the promise says it, put together piece by piece.
func headWith(g api.Geometry, group int, inodes, data []byte) []byte {
	b := []byte{'C', 'G', byte(group), 0}
	b = append(b, make([]byte, 12)...)
	b = append(b, rowOf(inodes, g.Inodes*16, 8)...)
	b = append(b, make([]byte, 40)...)
	b = append(b, rowOf(data, g.Data, (g.Data+7)/8)...)
	return append(b, make([]byte, 1024-len(b))...)
}

func TestHeadWritesTheHead(t *testing.T) {
	for _, g := range fine() {
		all := rows()
		for i, inodes := range all {
			data, group := all[len(all)-1-i], i%g.Groups
			b, err := Head(g, group, inodes, data)
			if err != api.OK || !bytes.Equal(b, headWith(g, group, inodes, data)) {
				t.Errorf("Head(%+v, %d, %v, %v): %d, %v", g, group, inodes, data, err, b)
			}
		}
	}
}

func TestHeadOfEachGroup(t *testing.T) {
	g := api.Geometry{Groups: 8, Inodes: 4, Data: 1000}
	for group := range 8 {
		b, err := Head(g, group, nil, nil)
		if err != api.OK || len(b) != 1024 || !bytes.Equal(b[:4], []byte{'C', 'G', byte(group), 0}) || !bytes.Equal(b[4:], make([]byte, 1020)) {
			t.Errorf("Head of group %d: %d, %v", group, err, b)
		}
	}
}

func TestHeadOfEachBit(t *testing.T) {
	g := api.Geometry{Groups: 1, Inodes: 2, Data: 29}
	for i := range 80 {
		one := make([]byte, 10)
		one[i/8] = 1 << (i % 8)
		b, _ := Head(g, 0, one, nil)
		if want := i < 32; (b[16+i/8] == one[i/8]) != want {
			t.Errorf("the bit of inode %d: %v", i, b)
		}
		b, _ = Head(g, 0, nil, one)
		if want := i < 29; (b[64+i/8] == one[i/8]) != want {
			t.Errorf("the bit of data block %d: %v", i, b)
		}
	}
}

func TestHeadRefuses(t *testing.T) {
	for _, g := range refused() {
		for _, group := range []int{0, 1, -1} {
			if b, err := Head(g, group, []byte{1}, []byte{1}); err != api.ErrArg || len(b) != 0 {
				t.Errorf("Head(%+v, %d): %d, %d bytes", g, group, err, len(b))
			}
		}
	}
	for _, g := range fine() {
		for _, group := range []int{-1, g.Groups, g.Groups + 1, 255, 256, 1 << 16, 1 << 32, math.MinInt, math.MaxInt} {
			if b, err := Head(g, group, []byte{1}, []byte{1}); err != api.ErrArg || len(b) != 0 {
				t.Errorf("Head(%+v, %d): %d, %d bytes", g, group, err, len(b))
			}
		}
	}
}

func TestBitsOfAHead(t *testing.T) {
	for _, g := range fine() {
		all := rows()
		for i, inodes := range all {
			data := all[(i+3)%len(all)]
			b, _ := Head(g, g.Groups-1, inodes, data)
			areBits(t, g, b, inodes, data)
		}
	}
}

func areBits(t *testing.T, g api.Geometry, b, inodes, data []byte) {
	t.Helper()
	gotInodes, gotData := Bits(g, b)
	if !bytes.Equal(gotInodes, rowOf(inodes, g.Inodes*16, 8)) || !bytes.Equal(gotData, rowOf(data, g.Data, (g.Data+7)/8)) {
		t.Errorf("%+v: Bits are %v, %v", g, gotInodes, gotData)
	}
}

// TestBitsOfAnyBlock: bits that are none are 0 in the answer, whatever stands there; and what stands elsewhere is not looked at.
func TestBitsOfAnyBlock(t *testing.T) {
	full, noise := bytes.Repeat([]byte{255}, 1024), make([]byte, 1024)
	for i := range noise {
		noise[i] = byte(i*i*11 + i*3 + 1)
	}
	for _, g := range fine() {
		for _, b := range [][]byte{full, noise, make([]byte, 1024)} {
			areBits(t, g, b, b[16:24], b[64:])
		}
	}
}

func TestBitsOfWhatIsNone(t *testing.T) {
	full := bytes.Repeat([]byte{255}, 2048)
	for _, g := range fine() {
		for _, n := range []int{0, 1, 16, 24, 64, 190, 1023, 1025, 2048} {
			if inodes, data := Bits(g, full[:n]); inodes != nil || data != nil {
				t.Errorf("Bits(%+v, %d bytes): %v, %v", g, n, inodes, data)
			}
		}
	}
	for _, g := range refused() {
		for _, b := range [][]byte{nil, full[:1024], full} {
			if inodes, data := Bits(g, b); inodes != nil || data != nil {
				t.Errorf("Bits(%+v, %d bytes): %v, %v", g, len(b), inodes, data)
			}
		}
	}
}

// P403

// spoil overwrites a list and its spare room.
func spoil(b []byte) {
	b = b[:cap(b)]
	for i := range b {
		b[i] = 170
	}
}

func TestWhatIsHandedInStaysAsItIs(t *testing.T) {
	g := api.Geometry{Groups: 2, Inodes: 1, Data: 12}
	block, _ := Head(g, 1, []byte{255, 255}, []byte{255, 255})
	block = append(block, 1, 2, 3)
	row := []byte{255, 255, 255, 255, 7}
	wantBlock, wantRow := bytes.Clone(block), bytes.Clone(row)
	for n := range row {
		Head(g, 1, row[:n], row[:n])
	}
	Bits(g, block[:1024])
	Bits(g, block)
	Read(block[:1024])
	Read(block)
	if !bytes.Equal(block, wantBlock) || !bytes.Equal(row, wantRow) {
		t.Error("an argument was changed")
	}
}

func TestAnswersAreNewMemory(t *testing.T) {
	g := api.Geometry{Groups: 2, Inodes: 4, Data: 64}
	row := bytes.Repeat([]byte{255}, 8)
	head, _ := Head(g, 0, row, row)
	wantHead := bytes.Clone(head)
	inodes, data := Bits(g, head)
	spoil(inodes)
	if !bytes.Equal(data, row) {
		t.Error("the two rows share memory")
	}
	spoil(data)
	if !bytes.Equal(head, wantHead) {
		t.Error("Bits shares memory with its argument")
	}
	spoil(head)
	if !bytes.Equal(row, bytes.Repeat([]byte{255}, 8)) {
		t.Error("Head shares memory with its argument")
	}
}

func TestAnswersHangOnArgumentsAlone(t *testing.T) {
	for _, g := range fine() {
		row := []byte{255, 255, 255, 255, 255, 255, 255, 255, 255}
		pack, _ := Pack(g)
		head, _ := Head(g, 0, row, row)
		inodes, data := Bits(g, head)
		wantPack, wantHead, wantInodes, wantData := bytes.Clone(pack), bytes.Clone(head), bytes.Clone(inodes), bytes.Clone(data)
		spoil(pack)
		spoil(head)
		spoil(inodes)
		spoil(data)
		roomy := append(make([]byte, 0, 99), row...)
		pack, _ = Pack(g)
		head, _ = Head(g, 0, roomy, roomy)
		inodes, data = Bits(g, head)
		if !bytes.Equal(pack, wantPack) || !bytes.Equal(head, wantHead) || !bytes.Equal(inodes, wantInodes) || !bytes.Equal(data, wantData) {
			t.Errorf("%+v: answered otherwise the second time", g)
		}
	}
}

// InodeBit and DataBit beside the chapter's calls: where Head puts each bit.
func TestPlacesOfBits(t *testing.T) {
	g := api.Geometry{Groups: 1, Inodes: api.MaxIB, Data: api.MaxData}
	inodes, data := make([]byte, 8), make([]byte, 125)
	empty, _ := Head(g, 0, inodes, data)
	for n := range 64 {
		got, _ := Head(g, 0, bits.With(inodes, n, true), data)
		if !bytes.Equal(got, bits.With(empty, InodeBit(n), true)) {
			t.Errorf("inode %d", n)
		}
	}
	for n := range 1000 {
		got, _ := Head(g, 0, inodes, bits.With(data, n, true))
		if !bytes.Equal(got, bits.With(empty, DataBit(n), true)) {
			t.Errorf("data block %d", n)
		}
	}
}
