package path

import (
	"slices"
	"strings"
	"testing"

	"lockgate/api"
)

// long is a name of n bytes, none like its neighbour.
func long(n int) string {
	return "abcdefghijklmnopqrstuvwxyzABCDEFGH"[:n]
}

// goodParts are parts that may be: of each length, of each byte but two, and what is nearly one of those that may not.
func goodParts() []string {
	out := []string{"...", "....", " ", "a b", ".a", "a.", "..a", "a..", ". ", " .", ".. ", "\\", "\xff\xfe", "\n", "é", "\xc3", "\xc0\xaf", "․", "~", "*"}
	for n := 1; n <= 27; n++ {
		out = append(out, long(n), strings.Repeat("\xff", n))
		if n > 2 {
			out = append(out, strings.Repeat(".", n))
		}
	}
	for c := 1; c < 256; c++ {
		one := string([]byte{byte(c)})
		if one != "/" && one != "." {
			out = append(out, one)
		}
		if one != "/" {
			out = append(out, "a"+one, one+"a", long(26)+one)
		}
	}
	return out
}

// badParts are parts that may not be, and that have no slash.
func badParts() []string {
	out := []string{"", ".", "..", "\x00", "\x00\x00", "a\x00", "\x00a", "a\x00b", ".\x00", "..\x00", "\xff\x00"}
	for at := range 27 {
		out = append(out, long(at)+"\x00", long(at)+"\x00"+long(26-at))
	}
	for _, n := range []int{28, 29, 32, 33, 255, 256, 257, 256 + 27, 499, 500, 512, 1 << 16, 1<<16 + 5} {
		out = append(out, strings.Repeat("x", n), strings.Repeat(".", n))
	}
	return out
}

// pathOf is a path of just n bytes (2 or more) whose parts have 10 bytes, but for the last one.
func pathOf(n int) string {
	s := strings.Repeat("/0123456789", n/11)
	switch left := n - len(s); left {
	case 0:
		return s
	case 1:
		return s + "x" // a slash alone would be no part: the last one is longer by a byte
	default:
		return s + "/" + long(left-1)
	}
}

func splits(t *testing.T, s string, want []string) {
	t.Helper()
	l, err := Split(s)
	if err != api.OK || !slices.Equal(l, want) {
		t.Errorf("Split(%.60q): %q, %d; want %q", s, l, err, want)
	}
}

func refuses(t *testing.T, s string) {
	t.Helper()
	if l, err := Split(s); err != api.ErrName || l != nil {
		t.Errorf("Split(%.60q): %q, %d; want nil, ErrName", s, l, err)
	}
}

// told is what the promise says of a path, byte by byte.
func told(s string) ([]string, api.Errno) {
	if s == "/" {
		return nil, api.OK
	}
	if s == "" || s[0] != '/' || len(s) > 500 {
		return nil, api.ErrName
	}
	var out []string
	part := ""
	for i := 1; i <= len(s); i++ {
		if i < len(s) && s[i] != '/' {
			part += s[i : i+1]
			continue
		}
		if part == "" || part == "." || part == ".." || len(part) > 27 || strings.Contains(part, "\x00") {
			return nil, api.ErrName
		}
		out = append(out, part)
		part = ""
	}
	return out, api.OK
}

// P801: Split.

func TestSplitOfOrdinaryPaths(t *testing.T) {
	splits(t, "/", nil)
	splits(t, "/a", []string{"a"})
	splits(t, "/a/b", []string{"a", "b"})
	splits(t, "/a/b/c", []string{"a", "b", "c"})
	splits(t, "/a/a/a", []string{"a", "a", "a"})
	splits(t, "/usr/local/lib", []string{"usr", "local", "lib"})
	splits(t, "/.../..a/b..", []string{"...", "..a", "b.."})
}

func TestSplitTakesEachNameThatMayBe(t *testing.T) {
	for _, part := range goodParts() {
		splits(t, "/"+part, []string{part})
		splits(t, "/"+part+"/b", []string{part, "b"})
		splits(t, "/a/"+part, []string{"a", part})
		splits(t, "/a/"+part+"/b", []string{"a", part, "b"})
	}
}

func TestSplitRefusesEachNameThatMayNotBe(t *testing.T) {
	for _, part := range badParts() {
		if part != "" {
			refuses(t, "/"+part)
		}
		refuses(t, "/"+part+"/b")
		refuses(t, "/a/"+part)
		refuses(t, "/a/"+part+"/b")
	}
}

func TestSplitRefusesWhatDoesNotBeginWithASlash(t *testing.T) {
	for _, s := range []string{"", "a", "a/", "a/b", ".", "./a", "..", "../a", " /a", " ", "\x00", "\x00/a", "\\a", "\\", "~/a", "∕a", "\xff", pathOf(300)[1:]} {
		refuses(t, s)
	}
}

func TestSplitRefusesSlashesSideBySideAndAtTheEnd(t *testing.T) {
	for _, s := range []string{"//", "///", "////", "/a/", "/a//", "//a", "//a/b", "/a//b", "/a/b/", "/a/b//", "/a///b", "//a/", strings.Repeat("/", 500), strings.Repeat("/", 501)} {
		refuses(t, s)
	}
}

func TestSplitBoundsTheLengthOfAPath(t *testing.T) {
	for n := 2; n <= 540; n++ {
		s := pathOf(n)
		if len(s) != n {
			t.Fatalf("pathOf(%d) has %d bytes", n, len(s))
		}
		if n > 500 {
			refuses(t, s)
			continue
		}
		splits(t, s, strings.Split(s[1:], "/"))
	}
	ones := strings.Repeat("/a", 250)
	splits(t, ones, strings.Split(ones[1:], "/"))
	refuses(t, ones+"/")
	refuses(t, strings.Repeat("/a", 249)+"/bb/")
	refuses(t, strings.Repeat("/a", 251))
	refuses(t, strings.Repeat("/a", 1<<20))
	for _, n := range []int{512, 756, 1000, 1 << 16, 1<<16 + 12} {
		refuses(t, pathOf(n))
	}
}

func TestSplitOfAllShortTexts(t *testing.T) {
	row := []string{""}
	for range 7 {
		var next []string
		for _, s := range row {
			want, wantErr := told(s)
			if l, err := Split(s); err != wantErr || !slices.Equal(l, want) || err != api.OK && l != nil {
				t.Fatalf("Split(%q): %q, %d; want %q, %d", s, l, err, want, wantErr)
			}
			for _, c := range []string{"/", ".", "a", "\x00", "\xff"} {
				next = append(next, s+c)
			}
		}
		row = next
	}
}

// P801: Join.

func TestJoin(t *testing.T) {
	for _, c := range []struct {
		parts []string
		want  string
	}{
		{nil, "/"},
		{[]string{}, "/"},
		{[]string{"a"}, "/a"},
		{[]string{"a", "b"}, "/a/b"},
		{[]string{"a", "b", "c"}, "/a/b/c"},
		{[]string{"b", "a"}, "/b/a"},
		{[]string{"\xff", " "}, "/\xff/ "},
	} {
		if s := Join(c.parts); s != c.want {
			t.Errorf("Join(%q): %q; want %q", c.parts, s, c.want)
		}
	}
}

func TestJoinTakesPartsThatMayNotBe(t *testing.T) {
	for _, c := range []struct {
		parts []string
		want  string
	}{
		{[]string{""}, "/"},
		{[]string{"", ""}, "//"},
		{[]string{"a", ""}, "/a/"},
		{[]string{"", "a"}, "//a"},
		{[]string{"a", "", "b"}, "/a//b"},
		{[]string{".", ".."}, "/./.."},
		{[]string{"/"}, "//"},
		{[]string{"a/b", "c"}, "/a/b/c"},
		{[]string{"a\x00", "\x00"}, "/a\x00/\x00"},
		{[]string{long(28), strings.Repeat("x", 600)}, "/" + long(28) + "/" + strings.Repeat("x", 600)},
	} {
		if s := Join(c.parts); s != c.want {
			t.Errorf("Join(%.60q): %.60q; want %.60q", c.parts, s, c.want)
		}
	}
	if s := Join(slices.Repeat([]string{"a"}, 100000)); s != strings.Repeat("/a", 100000) {
		t.Errorf("Join of 100000 parts has %d bytes", len(s))
	}
}

// P802.

func TestSplitOfJoinIsTheParts(t *testing.T) {
	good := goodParts()
	for i := range good {
		for _, n := range []int{0, 1, 2, 3, 5, 17} {
			var l []string
			for k := range n {
				l = append(l, good[(i*7+k*k+k)%len(good)])
			}
			s := Join(l)
			if len(s) > 500 {
				t.Fatalf("a path of %d bytes", len(s))
			}
			splits(t, s, l)
		}
	}
}

func TestSplitOfJoinOfPartsThatAreTooLong(t *testing.T) {
	l := slices.Repeat([]string{long(27)}, 17) // 17*28 bytes: 476
	splits(t, Join(append(l, long(23))), append(slices.Clone(l), long(23)))
	refuses(t, Join(append(l, long(24))))
	refuses(t, Join(slices.Repeat([]string{"a"}, 251)))
}

func TestJoinOfSplitIsThePath(t *testing.T) {
	for _, s := range []string{"/", "/a", "/a/b", "/.../\xff/ ", pathOf(499), pathOf(500), strings.Repeat("/a", 250)} {
		l, err := Split(s)
		if err != api.OK || Join(l) != s {
			t.Errorf("Join of Split(%.60q): %.60q, %d", s, Join(l), err)
		}
	}
}

func TestJoinLeavesTheListAsItIs(t *testing.T) {
	whole := []string{"a", "b", "spare", "room"}
	if s := Join(whole[:2]); s != "/a/b" {
		t.Errorf("Join: %q", s)
	}
	if !slices.Equal(whole, []string{"a", "b", "spare", "room"}) {
		t.Errorf("Join has changed what it was handed: %q", whole)
	}
}

func TestAnswersHangOnArgumentsAlone(t *testing.T) {
	paths := []string{"/a/b", "/", "//", "/c", "/a/b/", "/d/e/f", pathOf(500), pathOf(501)}
	for range 3 {
		for _, s := range paths {
			want, wantErr := told(s)
			l, err := Split(s)
			if err != wantErr || !slices.Equal(l, want) {
				t.Errorf("Split(%.60q): %q, %d", s, l, err)
			}
			// What one call answered is the caller's: another call does not see what becomes of it.
			for k := range l {
				l[k] = "turned"
			}
			again, _ := Split(s)
			if !slices.Equal(again, want) {
				t.Errorf("Split(%.60q) again: %q", s, again)
			}
			if err == api.OK && Join(want) != s {
				t.Errorf("Join(%q): %q", want, Join(want))
			}
		}
	}
}
