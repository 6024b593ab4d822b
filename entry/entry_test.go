package entry

import (
	"bytes"
	"encoding/binary"
	"math"
	"slices"
	"strings"
	"testing"

	"lockgate/api"
)

// bytesOf is an entry's bytes as the promise says them, put together piece by piece.
func bytesOf(e api.Entry) []byte {
	b := binary.LittleEndian.AppendUint32(nil, uint32(e.Ino))
	b = append(b, byte(len(e.Name)))
	b = append(b, e.Name...)
	return append(b, make([]byte, 32-len(b))...)
}

// long is a name of n bytes, none like its neighbour.
func long(n int) string {
	return "abcdefghijklmnopqrstuvwxyzABCDEFGH"[:n]
}

// goodNames are names that may be: of each length, and of each byte but two.
func goodNames() []string {
	out := []string{".", "..", "...", " ", "a b", ".a", "a.", "\\", "\xff\xfe", "\n", "é", "\xc3", "0", "\x2e\x30"}
	for n := 1; n <= 27; n++ {
		out = append(out, long(n), strings.Repeat("\xff", n), strings.Repeat(".", n))
	}
	for c := 1; c < 256; c++ {
		if c != '/' {
			one := string([]byte{byte(c)})
			out = append(out, one, "a"+one, one+"a", long(26)+one)
		}
	}
	return out
}

// badNames are names that may not be, though they are some.
func badNames() []string {
	out := []string{"/", "//", "/a", "a/", "a/b", "./", "../", "\x00", "\x00\x00", "a\x00", "\x00a", "a\x00b", "\xff/", "\xc3\x00", "é/"}
	for at := range 27 {
		for _, c := range []string{"/", "\x00"} {
			out = append(out, long(at)+c, long(at)+c+long(26-at))
		}
	}
	for _, n := range []int{28, 29, 32, 33, 255, 256, 257, 256 + 27, 512, 1 << 16, 1<<16 + 5} {
		out = append(out, strings.Repeat("x", n), strings.Repeat(".", n))
	}
	return out
}

// goodNumbers are the edges of what four bytes tell, but 0.
func goodNumbers() []int {
	return []int{1, 2, 255, 256, 65535, 65536, 0x01020304, 1 << 24, 1<<31 - 1, 1 << 31, 1<<32 - 2, 1<<32 - 1}
}

func badNumbers() []int {
	return []int{-1, -2, -256, -1 << 31, -1 << 32, -1<<32 + 1, math.MinInt, math.MinInt + 1, 1 << 32, 1<<32 + 1, 1 << 33, 1 << 40, 1 << 62, math.MaxInt}
}

// fine are entries that may be.
func fine() []api.Entry {
	out := []api.Entry{{}}
	for _, name := range goodNames() {
		out = append(out, api.Entry{Ino: 0x04030201, Name: name})
	}
	for _, ino := range goodNumbers() {
		out = append(out, api.Entry{Ino: ino, Name: "a"}, api.Entry{Ino: ino, Name: long(27)})
	}
	return out
}

// wrong are entries that may not be.
func wrong() []api.Entry {
	out := []api.Entry{{Ino: 1}, {Ino: -1}, {Ino: 1 << 32}, {Ino: 1<<32 - 1}, {Name: "a"}}
	for _, name := range goodNames() {
		out = append(out, api.Entry{Name: name})
	}
	for _, name := range badNames() {
		out = append(out, api.Entry{Name: name}, api.Entry{Ino: 1, Name: name}, api.Entry{Ino: 1<<32 - 1, Name: name})
	}
	for _, ino := range goodNumbers() {
		out = append(out, api.Entry{Ino: ino})
	}
	for _, ino := range badNumbers() {
		out = append(out, api.Entry{Ino: ino}, api.Entry{Ino: ino, Name: "a"}, api.Entry{Ino: ino, Name: "/"})
	}
	return out
}

func isNone(t *testing.T, what string, b []byte) {
	t.Helper()
	if e, err := Read(b); err != api.ErrByte || e != (api.Entry{}) {
		t.Errorf("%s: Read(%v): %d, %#v", what, b, err, e)
	}
}

// P601

func TestName(t *testing.T) {
	for _, s := range goodNames() {
		if !Name(s) {
			t.Errorf("%q may be", s)
		}
	}
	for _, s := range append(badNames(), "") {
		if Name(s) {
			t.Errorf("%q may not be", s)
		}
	}
}

func TestPackWritesTheEntry(t *testing.T) {
	for _, c := range []struct {
		e    api.Entry
		want []byte
	}{
		{api.Entry{Ino: 1, Name: "."}, append([]byte{1, 0, 0, 0, 1, '.'}, make([]byte, 26)...)},
		{api.Entry{Ino: 0x04030201, Name: "a\xffb"}, append([]byte{1, 2, 3, 4, 3, 'a', 255, 'b'}, make([]byte, 24)...)},
		{api.Entry{Ino: 1<<32 - 1, Name: strings.Repeat("n", 27)}, append([]byte{255, 255, 255, 255, 27}, strings.Repeat("n", 27)...)},
		{api.Entry{}, make([]byte, 32)},
	} {
		if b, err := Pack(c.e); err != api.OK || !bytes.Equal(b, c.want) {
			t.Errorf("Pack(%#v): %d, %v", c.e, err, b)
		}
	}
	for _, e := range fine() {
		if b, err := Pack(e); err != api.OK || len(b) != 32 || !bytes.Equal(b, bytesOf(e)) {
			t.Errorf("Pack(%#v): %d, %v", e, err, b)
		}
	}
}

func TestPackRefuses(t *testing.T) {
	for _, e := range wrong() {
		if b, err := Pack(e); err != api.ErrArg || b != nil {
			t.Errorf("Pack(%#v): %d, %v", e, err, b)
		}
	}
}

func TestReadOfPackIsTheEntry(t *testing.T) {
	for _, e := range fine() {
		b, _ := Pack(e)
		if got, err := Read(b); err != api.OK || got != e {
			t.Errorf("Read of Pack(%#v): %d, %#v", e, err, got)
		}
		if got, err := Read(bytesOf(e)); err != api.OK || got != e {
			t.Errorf("Read of the bytes of %#v: %d, %#v", e, err, got)
		}
	}
}

func TestReadRefusesOtherLengths(t *testing.T) {
	isNone(t, "nil", nil)
	for _, b := range [][]byte{make([]byte, 1024), append(bytesOf(api.Entry{Ino: 1, Name: "."}), make([]byte, 992)...)} {
		for _, n := range []int{0, 1, 4, 5, 6, 30, 31, 33, 64, 1024} {
			isNone(t, "a length", b[:n])
		}
	}
}

// TestReadRefusesLengthsOfNames: of a name of n bytes no other length can be told, since its bytes, or those behind it, would be wrong.
func TestReadRefusesLengthsOfNames(t *testing.T) {
	for n := 1; n <= 27; n++ {
		for length := range 256 {
			b := bytesOf(api.Entry{Ino: 7, Name: long(n)})
			if length != n {
				b[4] = byte(length)
				isNone(t, "a length of the name", b)
			}
		}
	}
	for length := 1; length < 256; length++ {
		b := make([]byte, 32)
		b[4] = byte(length)
		isNone(t, "a length alone", b)
		b[0] = 1
		isNone(t, "a number and a length", b)
		if length != 27 { // 27 bytes of 27, which is no wrong name
			isNone(t, "no byte is 0", bytes.Repeat([]byte{byte(length)}, 32))
		}
	}
}

func TestReadRefusesNames(t *testing.T) {
	for n := 1; n <= 27; n++ {
		for at := range n {
			for _, c := range []byte{0, '/'} {
				b := bytesOf(api.Entry{Ino: 7, Name: long(n)})
				b[5+at] = c
				isNone(t, "a byte of the name", b)
			}
		}
	}
}

func TestReadRefusesBytesBehindTheName(t *testing.T) {
	for n := 1; n < 27; n++ {
		for at := 5 + n; at < 32; at++ {
			for bit := range 8 {
				b := bytesOf(api.Entry{Ino: 7, Name: long(n)})
				b[at] = 1 << bit
				isNone(t, "a byte that must be 0", b)
			}
		}
	}
}

// TestReadRefusesHalfFreeOnes: a number without a name, a name without a number, and any byte of a free one that is not 0.
func TestReadRefusesHalfFreeOnes(t *testing.T) {
	for at := range 32 {
		for bit := range 8 {
			b := make([]byte, 32)
			b[at] = 1 << bit
			isNone(t, "a free one", b)
		}
	}
	for _, name := range goodNames() {
		isNone(t, "a name without a number", bytesOf(api.Entry{Name: name}))
	}
}

func TestReadOfEachByteOfTheNumber(t *testing.T) {
	for at := range 4 {
		for c := 1; c < 256; c++ {
			b := append([]byte{0, 0, 0, 0, 2, 'h', 'i'}, make([]byte, 25)...)
			b[at] = byte(c)
			want := api.Entry{Ino: c << (8 * at), Name: "hi"}
			if e, err := Read(b); err != api.OK || e != want {
				t.Errorf("Read(%v): %d, %#v", b, err, e)
			}
		}
	}
}

// P602

// blockOf is a block of entries as the promise says it.
func blockOf(l []api.Entry) []byte {
	var b []byte
	for _, e := range l {
		b = append(b, bytesOf(e)...)
	}
	return append(b, make([]byte, 1024-len(b))...)
}

// many are n entries, none like another, but for each fifth, which is free.
func many(n int) []api.Entry {
	var l []api.Entry
	for k := range n {
		if k%5 == 4 {
			l = append(l, api.Entry{})
		} else {
			l = append(l, api.Entry{Ino: 0x01020304 * (k + 1), Name: long(k%27 + 1)})
		}
	}
	return l
}

// filled has free ones behind the list, 32 in all.
func filled(l []api.Entry) []api.Entry {
	return append(slices.Clone(l), make([]api.Entry, 32-len(l))...)
}

func TestPackBlockWritesTheBlock(t *testing.T) {
	want := append([]byte{1, 0, 0, 0, 1, '.'}, make([]byte, 1018)...)
	copy(want[32:], []byte{2, 1, 0, 0, 2, '.', '.'})
	if b, err := PackBlock([]api.Entry{{Ino: 1, Name: "."}, {Ino: 258, Name: ".."}}); err != api.OK || !bytes.Equal(b, want) {
		t.Errorf("%d, %v", err, b)
	}
	for n := range 33 {
		if b, err := PackBlock(many(n)); err != api.OK || len(b) != 1024 || !bytes.Equal(b, blockOf(many(n))) {
			t.Errorf("%d entries: %d, %v", n, err, b)
		}
	}
	for _, l := range [][]api.Entry{nil, {}, {{}}, make([]api.Entry, 31), make([]api.Entry, 32)} {
		if b, err := PackBlock(l); err != api.OK || !bytes.Equal(b, make([]byte, 1024)) {
			t.Errorf("%d free ones: %d, %v", len(l), err, b)
		}
	}
}

func TestPackBlockTakesOneNameTwice(t *testing.T) {
	l := []api.Entry{{Ino: 5, Name: "a"}, {Ino: 5, Name: "a"}, {Ino: 6, Name: "a"}}
	if b, err := PackBlock(l); err != api.OK || !bytes.Equal(b, blockOf(l)) {
		t.Errorf("%d, %v", err, b)
	}
}

func TestPackBlockRefuses(t *testing.T) {
	for _, n := range []int{33, 34, 64, 1000} {
		if b, err := PackBlock(make([]api.Entry, n)); err != api.ErrArg || b != nil {
			t.Errorf("%d free ones: %d, %v", n, err, b)
		}
		if b, err := PackBlock(many(n)); err != api.ErrArg || b != nil {
			t.Errorf("%d entries: %d, %v", n, err, b)
		}
	}
	for k, bad := range wrong() {
		for _, at := range []int{0, k % 32, 31} {
			l := many(32)
			l[at] = bad
			if b, err := PackBlock(l); err != api.ErrArg || b != nil {
				t.Errorf("%#v at %d: %d, %v", bad, at, err, b)
			}
			if b, err := PackBlock(l[:at+1]); err != api.ErrArg || b != nil {
				t.Errorf("%#v at the end: %d, %v", bad, err, b)
			}
		}
	}
}

func TestBlockTellsTheEntries(t *testing.T) {
	for n := range 33 {
		if got := Block(blockOf(many(n))); !slices.Equal(got, filled(many(n))) {
			t.Errorf("%d entries: %v", n, got)
		}
		b, _ := PackBlock(many(n))
		if got := Block(b); !slices.Equal(got, filled(many(n))) {
			t.Errorf("of PackBlock of %d entries: %v", n, got)
		}
	}
}

// TestBlockTellsNoneAsFree: bytes that are no entry's are a free one, and those beside them are what they are.
func TestBlockTellsNoneAsFree(t *testing.T) {
	spoilt := [][]byte{
		bytes.Repeat([]byte{255}, 32),
		bytesOf(api.Entry{Ino: 7}),
		bytesOf(api.Entry{Name: "a"}),
		bytesOf(api.Entry{Ino: 7, Name: "a/b"}),
		bytesOf(api.Entry{Ino: 7, Name: "a\x00"}),
		append(bytesOf(api.Entry{Ino: 7, Name: "a"})[:31], 1),
		append([]byte{7, 0, 0, 0, 28}, strings.Repeat("x", 27)...),
	}
	for _, bad := range spoilt {
		for at := range 32 {
			b, want := blockOf(many(32)), many(32)
			copy(b[at*32:], bad)
			want[at] = api.Entry{}
			if got := Block(b); !slices.Equal(got, want) {
				t.Errorf("%v at %d: %v", bad, at, got)
			}
		}
		if got := Block(bytes.Repeat(bad, 32)); !slices.Equal(got, make([]api.Entry, 32)) {
			t.Errorf("%v everywhere: %v", bad, got)
		}
	}
}

func TestBlockOfOtherLengths(t *testing.T) {
	if l := Block(nil); l != nil {
		t.Errorf("nil: %v", l)
	}
	for _, n := range []int{0, 1, 31, 32, 33, 512, 992, 1023, 1025, 1056, 2048} {
		if l := Block(make([]byte, n, 4096)); l != nil {
			t.Errorf("%d bytes: %v", n, l)
		}
	}
}

// TestEachMayBeLeft: who ranges over the entries may stop at each of them.
func TestEachMayBeLeft(t *testing.T) {
	for n := 1; n <= 32; n++ {
		var got []api.Entry
		for e := range each(blockOf(many(32))) {
			got = append(got, e)
			if len(got) == n {
				break
			}
		}
		if !slices.Equal(got, many(n)) {
			t.Errorf("the first %d: %v", n, got)
		}
	}
}

// P603

// spoil overwrites a list and its spare room.
func spoil[T any](l []T, with T) {
	l = l[:cap(l)]
	for i := range l {
		l[i] = with
	}
}

func TestWhatIsHandedInStaysAsItIs(t *testing.T) {
	one := append(bytesOf(api.Entry{Ino: 7, Name: "a"}), 1, 2, 3)
	block := append(blockOf(many(32)), 1, 2, 3)
	list := many(40)
	list[36] = api.Entry{Ino: -1}
	wantOne, wantBlock, wantList := bytes.Clone(one), bytes.Clone(block), slices.Clone(list)
	for _, n := range []int{0, 31, 32, 33, 35} {
		Read(one[:n])
	}
	for _, n := range []int{0, 1023, 1024, 1025, 1027} {
		Block(block[:n])
	}
	for _, n := range []int{0, 1, 31, 32, 33, 40} {
		PackBlock(list[:n])
	}
	PackBlock(list[10:])
	if !bytes.Equal(one, wantOne) || !bytes.Equal(block, wantBlock) || !slices.Equal(list, wantList) {
		t.Error("an argument was changed")
	}
}

func TestAnswersAreNewMemory(t *testing.T) {
	one := bytesOf(api.Entry{Ino: 7, Name: "name"})
	e, _ := Read(one)
	spoil(one, 170)
	if e.Name != "name" {
		t.Error("Read shares memory with its argument")
	}
	list := many(32)
	block, _ := PackBlock(list)
	got := Block(block)
	spoil(got, api.Entry{Ino: -7})
	if !bytes.Equal(block, blockOf(many(32))) || !slices.Equal(list, many(32)) {
		t.Error("Block shares memory")
	}
	got = Block(block)
	spoil(block, 170)
	if !slices.Equal(got, many(32)) || !slices.Equal(list, many(32)) {
		t.Error("the names of Block, or PackBlock, share memory with their argument")
	}
}

// TestAnswersHangOnArgumentsAlone: neither what was answered ahead, nor spare room, nor what lies in it, is to be seen.
func TestAnswersHangOnArgumentsAlone(t *testing.T) {
	for range 2 {
		for _, e := range fine() {
			b, err := Pack(e)
			if err != api.OK || !bytes.Equal(b, bytesOf(e)) {
				t.Errorf("Pack(%#v): %d, %v", e, err, b)
			}
			roomy := append(bytes.Clone(b), 1, 2, 3)[:32]
			if got, err := Read(roomy); err != api.OK || got != e {
				t.Errorf("Read(%v): %d, %#v", roomy, err, got)
			}
			spoil(b, 170)
		}
		roomy := append(many(3), api.Entry{Ino: -1}, api.Entry{Name: "a"})[:3]
		b, err := PackBlock(roomy)
		if err != api.OK || !bytes.Equal(b, blockOf(many(3))) {
			t.Errorf("PackBlock: %d, %v", err, b)
		}
		l := Block(append(bytes.Clone(b), 1, 2, 3)[:1024])
		if !slices.Equal(l, filled(many(3))) {
			t.Errorf("Block: %v", l)
		}
		spoil(b, 170)
		spoil(l, api.Entry{Ino: -7})
	}
}
