package calls

import (
	"bytes"
	"fmt"
	"math"
	"reflect"
	"strings"
	"testing"

	"lockgate/api"
)

// lines are lines with the calls that they are.
func lines() map[string]api.Call {
	return map[string]api.Call{
		"create /a":              {Kind: api.CCreate, Path: "/a"},
		"mkdir /a/b":             {Kind: api.CMkdir, Path: "/a/b"},
		"link /a /b":             {Kind: api.CLink, Path: "/a", To: "/b"},
		"unlink /a":              {Kind: api.CUnlink, Path: "/a"},
		"rmdir /a":               {Kind: api.CRmdir, Path: "/a"},
		"rename /a /b":           {Kind: api.CRename, Path: "/a", To: "/b"},
		"read /a 0 9":            {Kind: api.CRead, Path: "/a", N: 9},
		"read /a 7 0":            {Kind: api.CRead, Path: "/a", Off: 7},
		"write /a 0 6869":        {Kind: api.CWrite, Path: "/a", Data: []byte("hi")},
		"write /a -3 -":          {Kind: api.CWrite, Path: "/a", Off: -3},
		"write /a 12 00ff0a":     {Kind: api.CWrite, Path: "/a", Off: 12, Data: []byte{0, 255, 10}},
		"trunc /a 5":             {Kind: api.CTrunc, Path: "/a", N: 5},
		"stat /":                 {Kind: api.CStat, Path: "/"},
		"list /":                 {Kind: api.CList, Path: "/"},
		"fsync /a":               {Kind: api.CFsync, Path: "/a"},
		"sync":                   {Kind: api.CSync},
		"create %":               {Kind: api.CCreate},
		"link % %":               {Kind: api.CLink},
		"rename % /b":            {Kind: api.CRename, To: "/b"},
		"rename /b %":            {Kind: api.CRename, Path: "/b"},
		"create %20":             {Kind: api.CCreate, Path: " "},
		"create %25":             {Kind: api.CCreate, Path: "%"},
		"create %2525":           {Kind: api.CCreate, Path: "%25"},
		"create %25%00%1f%7f%ff": {Kind: api.CCreate, Path: "%\x00\x1f\x7f\xff"},
		"create !~-#,":           {Kind: api.CCreate, Path: "!~-#,"},
		"create /%c3%bc%20x":     {Kind: api.CCreate, Path: "/ü x"},
		"create %0a":             {Kind: api.CCreate, Path: "\n"},
		"stat create":            {Kind: api.CStat, Path: "create"},
		"stat -":                 {Kind: api.CStat, Path: "-"},
		fmt.Sprint("read x ", math.MinInt, " ", math.MaxInt): {Kind: api.CRead, Path: "x", Off: math.MinInt, N: math.MaxInt},
		fmt.Sprint("trunc % ", math.MinInt):                  {Kind: api.CTrunc, N: math.MinInt},
	}
}

// P2601

func TestPrint(t *testing.T) {
	for want, c := range lines() {
		if got := Print(c); got != want {
			t.Errorf("%v: %q, not %q", c, got, want)
		}
	}
}

func TestPrintLooksAtItsFieldsOnly(t *testing.T) {
	for want, c := range lines() {
		fields := strings.Count(want, " ")
		if c.Kind != api.CLink && c.Kind != api.CRename {
			c.To = "/other"
		}
		if c.Kind != api.CRead && c.Kind != api.CWrite {
			c.Off = 99
		}
		if c.Kind != api.CRead && c.Kind != api.CTrunc {
			c.N = 98
		}
		if c.Kind != api.CWrite {
			c.Data = []byte("other")
		}
		if fields == 0 {
			c.Path = "/other"
		}
		if got := Print(c); got != want {
			t.Errorf("%v: %q, not %q", c, got, want)
		}
	}
}

func TestPrintOfAnotherKind(t *testing.T) {
	for _, kind := range []int{0, -1, 14, 15, 1 << 32, 1<<32 + 1, math.MaxInt, math.MinInt} {
		if got := Print(api.Call{Kind: kind, Path: "/a"}); got != "" {
			t.Errorf("%d: %q", kind, got)
		}
	}
}

func TestRead(t *testing.T) {
	for s, want := range lines() {
		got, err := Read(s)
		if err != api.OK || !reflect.DeepEqual(got, want) {
			t.Errorf("%q: %v, %d", s, got, err)
		}
	}
}

func TestReadOfNone(t *testing.T) {
	for _, s := range []string{
		"", " ", "  ", "\n", "nothing", "Create /a", "creat /a", "create", "create ", "create  /a", " create /a", "create /a ", "create /a /b", "create\t/a", "create /a\n",
		"link /a", "link /a ", "link /a  /b", "link /a /b /c", "sync ", "sync /a", "syn", "sync\n",
		"create %2", "create %%", "create %2g", "create %2G", "create %41", "create %2F", "create %7e", "create %21", "create a%", "create %a", "create %FF", "create %-", "create \xff", "create \x7f", "create \x01",
		"read /a", "read /a 1", "read /a 1 2 3", "read /a x 1", "read /a 1 x", "read /a 01 1", "read /a +1 1", "read /a -0 1", "read /a 1 00", "read /a 1  1", "read /a 1 1 ", "read /a - 1", "read /a 0x1 1", "read /a 1_0 1", "read /a 1 9223372036854775808", "read /a -9223372036854775809 1", "read /a 1.0 1",
		"write /a 0", "write /a 0 ", "write /a 0 6", "write /a 0 686", "write /a 0 6G", "write /a 0 g6", "write /a 0 AB", "write /a 0 --", "write /a 0 -6", "write /a 0 6 8", "write /a 0 6869 ", "write /a 6869", "write /a 0 0x", "write /a 0 %20",
		"trunc /a", "trunc /a 1 2", "trunc /a 08", "stat", "list", "fsync", "unlink", "rmdir", "mkdir", "rename /a", "1 /a", "0", "ok",
	} {
		if c, err := Read(s); err != api.ErrSyntax || !reflect.DeepEqual(c, api.Call{}) {
			t.Errorf("%q: %v, %d", s, c, err)
		}
	}
}

func TestReadOfPrint(t *testing.T) {
	var all []byte
	for b := range 256 {
		all = append(all, byte(b))
		s := string([]byte{'/', byte(b), 'x', byte(b)})
		for _, c := range []api.Call{{Kind: api.CRename, Path: s, To: s[1:]}, {Kind: api.CWrite, Path: s, Off: b, Data: all}, {Kind: api.CList, Path: string(all)}} {
			got, err := Read(Print(c))
			if err != api.OK || !reflect.DeepEqual(got, c) {
				t.Errorf("%v: %v, %d", c, got, err)
			}
			if word := Print(c); strings.Count(word, " ") > 3 || strings.ContainsFunc(word, func(r rune) bool { return r < 32 || r > 126 }) {
				t.Errorf("%q", word)
			}
		}
	}
}

func TestReadTakesOnlyWhatPrintWrites(t *testing.T) {
	seed := uint32(3)
	next := func(n int) int { seed = seed*1664525 + 1013904223; return int(seed>>8) % n }
	pieces := []string{"create", "read", "write", "sync", "trunc", "link", " ", " ", " ", " ", "/a", "%", "%20", "-", "0", "1", "af", "x", "9"}
	taken := 0
	for range 200000 {
		s := ""
		for range next(8) + 1 {
			s += pieces[next(len(pieces))]
		}
		c, err := Read(s)
		if err == api.OK {
			taken++
		}
		if err == api.OK && Print(c) != s || err != api.OK && !reflect.DeepEqual(c, api.Call{}) {
			t.Fatalf("%q: %v, %d", s, c, err)
		}
	}
	if taken < 100 {
		t.Errorf("%d taken", taken)
	}
}

// P2602

func TestShow(t *testing.T) {
	full := api.Result{Data: []byte("hi"), Kind: api.File, Size: 12, Links: 3, Names: []string{"a", "b c", "", "%"}, N: 7}
	for kind, want := range map[int]string{
		api.CCreate: "ok", api.CMkdir: "ok", api.CLink: "ok", api.CUnlink: "ok", api.CRmdir: "ok", api.CRename: "ok", api.CTrunc: "ok", api.CFsync: "ok", api.CSync: "ok",
		api.CRead: "data 6869", api.CWrite: "wrote 7", api.CStat: "file 12 3", api.CList: "names a b%20c % %25", 0: "ok", 14: "ok", -1: "ok", math.MaxInt: "ok", math.MinInt: "ok",
	} {
		if got := Show(kind, full); got != want {
			t.Errorf("%d: %q, not %q", kind, got, want)
		}
		failed := full
		failed.Err = api.ErrSpace
		if got := Show(kind, failed); got != "error 16" {
			t.Errorf("%d: %q", kind, got)
		}
		failed.Err = -3
		if got := Show(kind, failed); got != "error -3" {
			t.Errorf("%d: %q", kind, got)
		}
	}
	for want, r := range map[string]api.Result{"dir 1024 2": {Kind: api.Dir, Size: 1024, Links: 2}, "file 0 0": {Kind: api.File}, "dir -1 -2": {Kind: api.Dir, Size: -1, Links: -2}} {
		if got := Show(api.CStat, r); got != want {
			t.Errorf("%q, not %q", got, want)
		}
	}
	for kind, want := range map[int]string{api.CRead: "data -", api.CWrite: "wrote 0", api.CList: "names"} {
		if got := Show(kind, api.Result{}); got != want {
			t.Errorf("%d: %q, not %q", kind, got, want)
		}
	}
	if got := Show(api.CList, api.Result{Names: []string{"/x\x00\x80"}}); got != "names /x%00%80" {
		t.Errorf("%q", got)
	}
}

// P2603

func TestWhatIsHandedInStaysAsItIs(t *testing.T) {
	whole := []byte("some bytes and more")
	names := []string{"a", "b c", "d", "e"}
	Print(api.Call{Kind: api.CWrite, Path: "/a", Data: whole[:4]})
	Show(api.CRead, api.Result{Data: whole[:4]})
	Show(api.CList, api.Result{Names: names[:2]})
	if string(whole) != "some bytes and more" || strings.Join(names, ",") != "a,b c,d,e" {
		t.Errorf("%q, %q", whole, names)
	}
}

func TestReadAnswersNewMemory(t *testing.T) {
	a, _ := Read("write /a 0 0102")
	b, _ := Read("write /a 0 0102")
	clear(a.Data)
	if !bytes.Equal(b.Data, []byte{1, 2}) {
		t.Errorf("%v", b.Data)
	}
}
