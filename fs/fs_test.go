package fs_test

import (
	"bytes"
	"fmt"
	"math"
	"math/rand"
	"slices"
	"strconv"
	"strings"
	"testing"
	"unsafe"

	"snapferry/api"
	"snapferry/fs"
	"snapferry/treap"
)

// short is an operation, told in few bytes.
func short(o fs.Op) string {
	return fmt.Sprintf("%d %.80q %.80q Off %d From %d N %d, %d bytes %.20q", o.Kind, o.A, o.B, o.Off, o.From, o.N, len(o.Data), o.Data)
}

// must: an operation that can be done.
func must(t *testing.T, f *fs.FS, m *model, l ...fs.Op) {
	t.Helper()
	for _, o := range l {
		if err := checkDo(t, f, m, o); err != api.OK {
			t.Fatalf("Do(%s) = %d", short(o), err)
		}
	}
}

// refused: an operation that can't be done, and by which error.
func refused(t *testing.T, f *fs.FS, m *model, want api.Errno, l ...fs.Op) {
	t.Helper()
	for _, o := range l {
		if err := checkDo(t, f, m, o); err != want {
			t.Errorf("Do(%s) = %d, want %d", short(o), err, want)
		}
	}
}

// mixed is a text without a short period.
func mixed(n int) string {
	b := make([]byte, n)
	for i := range b {
		b[i] = byte(i*i + 31*i + i>>8)
	}
	return string(b)
}

// deep is a path of so many names.
func deep(name string, n int) string { return strings.Repeat("/"+name, n) }

// some: a file system with some of each.
func some(t *testing.T) (*fs.FS, *model) {
	t.Helper()
	f, m := fs.New(), newModel()
	must(t, f, m,
		fs.Op{Kind: mkDir, A: "/d", N: 448}, fs.Op{Kind: mkFile, A: "/d/f", N: 420}, fs.Op{Kind: mkSym, A: "/s", Data: "/d/f"},
		fs.Op{Kind: write, A: "/d/f", Off: 2, Data: "xyz"}, fs.Op{Kind: link, A: "/d/f", B: "/g"}, fs.Op{Kind: link, A: "/s", B: "/d/s"},
		fs.Op{Kind: mkDir, A: "/e", N: 0}, fs.Op{Kind: mkDir, A: "/d/in", N: 511}, fs.Op{Kind: mkFile, A: "/d/in/h", N: 1}, fs.Op{Kind: write, A: "/d/in/h", Data: mixed(4096)})
	check(t, f, m)
	return f, m
}

// The chapter's example. P11.1
func TestChaptersExample(t *testing.T) {
	f, m := fs.New(), newModel()
	must(t, f, m, fs.Op{Kind: mkFile, A: "/a"}, fs.Op{Kind: link, A: "/a", B: "/b"}, fs.Op{Kind: unlink, A: "/a"})
	ino, x, err := f.Find("/b")
	if ino != 2 || !equal(x, api.Node{Kind: api.File}) || err != api.OK {
		t.Errorf("%d, %v, %d", ino, x, err)
	}
	if _, _, err := f.Find("/a"); err != api.ErrNone {
		t.Error(err)
	}
	check(t, f, m)
}

// P11.1
func TestNew(t *testing.T) {
	f := fs.New()
	check(t, f, newModel())
	if x, ok := f.Node(1); !equal(x, api.Node{Kind: api.Dir, Mode: 493}) || !ok || f.Next() != 2 || !slices.Equal(f.Inos(), []int{1}) {
		t.Errorf("%v, %v, %d, %v", x, ok, f.Next(), f.Inos())
	}
	if s, ok := f.Map().Get("\x00\x00\x00\x01"); s != "\x02\x01\xed" || !ok || f.Map().Len() != 1 {
		t.Errorf("%x, %v, %d", s, ok, f.Map().Len())
	}
	f.Do(fs.Op{Kind: mkFile, A: "/a"})
	check(t, fs.New(), newModel())
}

// Texts under keys, as the words tell. P11.1
func TestMapOfAKnownSystem(t *testing.T) {
	f := fs.New()
	for _, o := range []fs.Op{{Kind: mkDir, A: "/d", N: 448}, {Kind: mkFile, A: "/d/f", N: 420}, {Kind: mkSym, A: "/a", N: 5, Data: "/d"}, {Kind: write, A: "/d/f", Data: "bytes"}} {
		if err := f.Do(o); err != api.OK {
			t.Fatal(err)
		}
	}
	var want *treap.Map
	want = want.Put("\x00\x00\x00\x01", "\x02\x01\xed\x01a\x00\x00\x00\x04\x01d\x00\x00\x00\x02")
	want = want.Put("\x00\x00\x00\x02", "\x02\x01\xc0\x01f\x00\x00\x00\x03")
	want = want.Put("\x00\x00\x00\x03", "\x01\x01\xa4bytes")
	want = want.Put("\x00\x00\x00\x04", "\x03\x01\xff/d")
	if d := treap.Diff(f.Map(), want); len(d) != 0 || f.Map().Name() != want.Name() {
		t.Errorf("keys that differ: %x", d)
	}
}

// All operations with all paths and many numbers, on one file system. P11.1
func TestAllOperations(t *testing.T) {
	f, m := some(t)
	paths := append(m.paths(), "", "d", "//", "/d/", "/.", "/d/..", "/\x00", "/"+strings.Repeat("n", 17), deep("x", 9), "/q", "/q/r", "/g/r", "/g/r/t", "/s/r", "/s/f", "/d/q", "/e/q", "/d/in/q", "/d/in/q/r", "/e/q/r", "/d/f/x", "/D", deep("x", 8), "/"+strings.Repeat("n", 16))
	numbers := []int{math.MinInt, -1, 0, 1, 2, 3, 4, 5, 64, 420, 511, 512, 4095, 4096, 4097, math.MaxInt}
	if testing.Short() {
		numbers = []int{-1, 0, 3, 512}
	}
	seen := map[int]map[api.Errno]int{}
	try := func(o fs.Op) {
		g, n := f.Copy(), m.copied()
		err := checkDo(t, g, n, o)
		if seen[o.Kind] == nil {
			seen[o.Kind] = map[api.Errno]int{}
		}
		if seen[o.Kind][err]++; err == api.OK && seen[o.Kind][err]%7 == 1 {
			check(t, g, n)
		}
	}
	for _, kind := range []int{math.MinInt, -1, 0, 12, 13, 255, 256, 257, 258, 1<<32 + 1, math.MaxInt} {
		try(fs.Op{Kind: kind, A: "/new", B: "/other", N: 1, Data: "x"})
		try(fs.Op{Kind: kind, A: "?", B: "?"})
	}
	for kind := mkFile; kind <= chmod; kind++ {
		for _, a := range paths {
			for _, b := range paths {
				if kind == link || kind == rename || kind == clone {
					try(fs.Op{Kind: kind, A: a, B: b, N: 1, Off: 6, From: 2})
				}
			}
			for _, n := range numbers {
				try(fs.Op{Kind: kind, A: a, B: "?", N: n, Off: n, From: n})
				try(fs.Op{Kind: kind, A: a, B: "?", N: n, Data: "some data"})
				try(fs.Op{Kind: kind, A: a, B: "/d/f", N: n, Data: strings.Repeat("t", max(0, min(n, 5000)))})
				try(fs.Op{Kind: kind, A: a, B: "/d/in/h", Off: n, From: 1, N: 2, Data: "t"})
				try(fs.Op{Kind: kind, A: a, B: "/d/in/h", Off: 1, From: n, N: 2})
			}
		}
	}
	check(t, f, m)
	for kind, want := range map[int][]api.Errno{
		mkFile: {api.OK, api.ErrName, api.ErrExists, api.ErrNone, api.ErrNotDir, api.ErrRange},
		mkDir:  {api.OK, api.ErrName, api.ErrExists, api.ErrNone, api.ErrNotDir, api.ErrRange},
		mkSym:  {api.OK, api.ErrName, api.ErrExists, api.ErrNone, api.ErrNotDir, api.ErrRange},
		link:   {api.OK, api.ErrName, api.ErrExists, api.ErrNone, api.ErrNotDir, api.ErrIsDir},
		unlink: {api.OK, api.ErrName, api.ErrNone, api.ErrNotDir, api.ErrIsDir},
		rmdir:  {api.OK, api.ErrName, api.ErrNone, api.ErrNotDir, api.ErrState, api.ErrNotEmpty},
		rename: {api.OK, api.ErrName, api.ErrNone, api.ErrNotDir, api.ErrState, api.ErrLoop, api.ErrExists},
		write:  {api.OK, api.ErrName, api.ErrNone, api.ErrNotDir, api.ErrIsDir, api.ErrKind, api.ErrRange, api.ErrLong},
		trunc:  {api.OK, api.ErrName, api.ErrNone, api.ErrNotDir, api.ErrIsDir, api.ErrKind, api.ErrRange, api.ErrLong},
		clone:  {api.OK, api.ErrName, api.ErrNone, api.ErrNotDir, api.ErrIsDir, api.ErrKind, api.ErrRange, api.ErrLong},
		chmod:  {api.OK, api.ErrName, api.ErrNone, api.ErrNotDir, api.ErrRange},
	} {
		for _, err := range want {
			if seen[kind][err] == 0 {
				t.Errorf("the Kind %d never answered %d", kind, err)
			}
		}
	}
}

// Where two errors apply, the first one is told. P11.1, rule 1
func TestFirstErrors(t *testing.T) {
	f, m := some(t)
	for i := range 60 { // / is full then
		must(t, f, m, fs.Op{Kind: mkFile, A: "/n" + strconv.Itoa(i)})
	}
	long := strings.Repeat("x", 5000)
	for _, c := range []struct {
		o    fs.Op
		want api.Errno
	}{
		{fs.Op{Kind: 0, A: "?", B: "?"}, api.ErrKind},
		{fs.Op{Kind: 12, A: "?", B: "?"}, api.ErrKind},
		{fs.Op{Kind: link, A: "/none", B: "?"}, api.ErrName},
		{fs.Op{Kind: link, A: "?", B: "/"}, api.ErrName},
		{fs.Op{Kind: rename, A: "/", B: "?"}, api.ErrName},
		{fs.Op{Kind: clone, A: "/none", B: "?"}, api.ErrName},
		{fs.Op{Kind: clone, A: "/d", B: ""}, api.ErrName},
		{fs.Op{Kind: unlink, A: "/none", B: "?"}, api.ErrNone},
		{fs.Op{Kind: mkFile, A: "/g/a/b", N: -1}, api.ErrNotDir},
		{fs.Op{Kind: mkFile, A: "/g/a", N: -1}, api.ErrNotDir},
		{fs.Op{Kind: mkFile, A: "/none/a", N: -1}, api.ErrNone},
		{fs.Op{Kind: mkFile, A: "/none/a/b", N: -1}, api.ErrNone},
		{fs.Op{Kind: mkFile, A: "/", N: 512}, api.ErrExists},
		{fs.Op{Kind: mkDir, A: "/g", N: 512}, api.ErrExists},
		{fs.Op{Kind: mkSym, A: "/g"}, api.ErrExists},
		{fs.Op{Kind: mkSym, A: "/d/in", Data: long}, api.ErrExists},
		{fs.Op{Kind: mkFile, A: "/more", N: 512}, api.ErrRange},
		{fs.Op{Kind: mkDir, A: "/more", N: -1}, api.ErrRange},
		{fs.Op{Kind: mkSym, A: "/more"}, api.ErrRange},
		{fs.Op{Kind: mkSym, A: "/more", Data: strings.Repeat("t", 65)}, api.ErrRange},
		{fs.Op{Kind: mkFile, A: "/more", N: 511}, api.ErrLong},
		{fs.Op{Kind: mkSym, A: "/more", N: -1, Data: "t"}, api.ErrLong},
		{fs.Op{Kind: link, A: "/none", B: "/"}, api.ErrNone},
		{fs.Op{Kind: link, A: "/g/a", B: "/none/a"}, api.ErrNotDir},
		{fs.Op{Kind: link, A: "/d", B: "/"}, api.ErrIsDir},
		{fs.Op{Kind: link, A: "/", B: "/none/a"}, api.ErrIsDir},
		{fs.Op{Kind: link, A: "/g", B: "/"}, api.ErrExists},
		{fs.Op{Kind: link, A: "/g", B: "/s/x/y"}, api.ErrNotDir},
		{fs.Op{Kind: link, A: "/g", B: "/g"}, api.ErrExists},
		{fs.Op{Kind: link, A: "/g", B: "/e"}, api.ErrExists},
		{fs.Op{Kind: link, A: "/g", B: "/more"}, api.ErrLong},
		{fs.Op{Kind: unlink, A: "/"}, api.ErrIsDir},
		{fs.Op{Kind: rmdir, A: "/"}, api.ErrState},
		{fs.Op{Kind: rmdir, A: "/s"}, api.ErrNotDir},
		{fs.Op{Kind: rmdir, A: "/d"}, api.ErrNotEmpty},
		{fs.Op{Kind: rename, A: "/none", B: "/"}, api.ErrNone},
		{fs.Op{Kind: rename, A: "/", B: "/"}, api.ErrState},
		{fs.Op{Kind: rename, A: "/", B: "/d/x"}, api.ErrState},
		{fs.Op{Kind: rename, A: "/d", B: "/d"}, api.ErrLoop},
		{fs.Op{Kind: rename, A: "/d", B: "/d/in"}, api.ErrLoop},
		{fs.Op{Kind: rename, A: "/d", B: "/d/none/x"}, api.ErrLoop},
		{fs.Op{Kind: rename, A: "/d", B: "/d/f/x"}, api.ErrLoop},
		{fs.Op{Kind: rename, A: "/d", B: "/"}, api.ErrExists},
		{fs.Op{Kind: rename, A: "/d", B: "/e"}, api.ErrExists},
		{fs.Op{Kind: rename, A: "/g", B: "/g"}, api.ErrExists},
		{fs.Op{Kind: rename, A: "/g", B: "/g/x"}, api.ErrNotDir},
		{fs.Op{Kind: rename, A: "/g", B: "/d/f"}, api.ErrExists},
		{fs.Op{Kind: rename, A: "/d/in", B: "/d"}, api.ErrExists},
		{fs.Op{Kind: rename, A: "/d/in", B: "/more"}, api.ErrLong},
		{fs.Op{Kind: rename, A: "/d/f", B: "/more"}, api.ErrLong},
		{fs.Op{Kind: write, A: "/d", Off: -1, Data: long}, api.ErrIsDir},
		{fs.Op{Kind: write, A: "/s", Off: -1, Data: long}, api.ErrKind},
		{fs.Op{Kind: write, A: "/g", Off: -1, Data: long}, api.ErrRange},
		{fs.Op{Kind: write, A: "/g", Data: long}, api.ErrLong},
		{fs.Op{Kind: write, A: "/g", Off: 4097}, api.ErrLong},
		{fs.Op{Kind: write, A: "/g", Off: math.MaxInt, Data: "xx"}, api.ErrLong},
		{fs.Op{Kind: trunc, A: "/", N: -1}, api.ErrIsDir},
		{fs.Op{Kind: trunc, A: "/d/s", N: -1}, api.ErrKind},
		{fs.Op{Kind: trunc, A: "/g", N: -1}, api.ErrRange},
		{fs.Op{Kind: trunc, A: "/g", N: 4097}, api.ErrLong},
		{fs.Op{Kind: clone, A: "/none", B: "/g/x"}, api.ErrNone},
		{fs.Op{Kind: clone, A: "/d", B: "/none"}, api.ErrIsDir},
		{fs.Op{Kind: clone, A: "/s", B: "/d"}, api.ErrKind},
		{fs.Op{Kind: clone, A: "/g", B: "/none", N: -1}, api.ErrNone},
		{fs.Op{Kind: clone, A: "/g", B: "/g/x", N: -1}, api.ErrNotDir},
		{fs.Op{Kind: clone, A: "/g", B: "/d", N: -1}, api.ErrIsDir},
		{fs.Op{Kind: clone, A: "/g", B: "/s", N: -1}, api.ErrKind},
		{fs.Op{Kind: clone, A: "/g", B: "/d/in/h", N: -1, Off: 9999}, api.ErrRange},
		{fs.Op{Kind: clone, A: "/g", B: "/d/in/h", From: 1, N: 4096, Off: 9999}, api.ErrRange},
		{fs.Op{Kind: clone, A: "/g", B: "/d/in/h", From: math.MaxInt, N: math.MaxInt}, api.ErrRange},
		{fs.Op{Kind: clone, A: "/g", B: "/d/in/h", Off: -1, N: 4096}, api.ErrRange},
		{fs.Op{Kind: clone, A: "/g", B: "/d/in/h", Off: 1, N: 4096}, api.ErrLong},
		{fs.Op{Kind: chmod, A: "/none", N: -1}, api.ErrNone},
		{fs.Op{Kind: chmod, A: "/", N: 512}, api.ErrRange},
	} {
		refused(t, f, m, c.want, c.o)
	}
	must(t, f, m, fs.Op{Kind: rename, A: "/d", B: "/more"}) // the full directory is its own
	check(t, f, m)
}

// P11.1
func TestModesAndTargets(t *testing.T) {
	for _, n := range []int{math.MinInt, -65536, -1, 0, 1, 255, 256, 420, 510, 511, 512, 513, 1024, 65536, 1 << 32, math.MaxInt} {
		f, m := fs.New(), newModel()
		must(t, f, m, fs.Op{Kind: mkSym, A: "/s", N: n, Data: "t"})
		want := api.ErrRange
		if n >= 0 && n <= 511 {
			want = api.OK
		}
		for _, o := range []fs.Op{{Kind: mkFile, A: "/f", N: n}, {Kind: mkDir, A: "/d", N: n}, {Kind: chmod, A: "/", N: n}} {
			if err := checkDo(t, f, m, o); err != want {
				t.Errorf("Do(%s) = %d", short(o), err)
			}
		}
		if _, x, _ := f.Find("/s"); x.Mode != 511 {
			t.Errorf("the Mode of a symbolic link, made with %d: %d", n, x.Mode)
		}
		if err := checkDo(t, f, m, fs.Op{Kind: chmod, A: "/s", N: n}); err != want {
			t.Errorf("Chmod of a symbolic link to %d = %d", n, err)
		}
		check(t, f, m)
	}
	for n := range 200 {
		f, m := fs.New(), newModel()
		want := api.ErrRange
		if n >= 1 && n <= 64 {
			want = api.OK
		}
		if err := checkDo(t, f, m, fs.Op{Kind: mkSym, A: "/s", Data: mixed(n)}); err != want {
			t.Errorf("a target of %d bytes = %d", n, err)
		}
		check(t, f, m)
	}
}

// What isn't named for a Kind plays no part. P11.1
func TestOtherFieldsPlayNoPart(t *testing.T) {
	f, m := some(t)
	must(t, f, m,
		fs.Op{Kind: mkFile, A: "/new", B: "?", Off: -1, From: -1, Data: "not its bytes"},
		fs.Op{Kind: mkDir, A: "/dir", B: "?", Off: -1, From: -1, Data: "no"},
		fs.Op{Kind: mkSym, A: "/sym", B: "?", Off: -1, From: -1, N: -1, Data: "to"},
		fs.Op{Kind: link, A: "/new", B: "/dir/new", Off: -1, From: -1, N: -1, Data: "no"},
		fs.Op{Kind: rename, A: "/dir/new", B: "/dir/other", Off: -1, From: -1, N: -1, Data: "no"},
		fs.Op{Kind: unlink, A: "/dir/other", B: "?", Off: -1, From: -1, N: -1, Data: "no"},
		fs.Op{Kind: rmdir, A: "/dir", B: "?", Off: -1, From: -1, N: -1, Data: "no"},
		fs.Op{Kind: write, A: "/new", B: "?", From: -1, N: -1, Data: "its bytes"},
		fs.Op{Kind: trunc, A: "/new", B: "?", Off: -1, From: -1, N: 3, Data: "no"},
		fs.Op{Kind: clone, A: "/new", B: "/new", Off: 3, From: 1, N: 2, Data: "no"},
		fs.Op{Kind: chmod, A: "/new", B: "?", Off: -1, From: -1, N: 7, Data: "no"})
	check(t, f, m)
	if s, err := f.Read("/new", 0, 99); s != "itsts" || err != api.OK {
		t.Errorf("%q, %d", s, err)
	}
}

// A node stays as long as an entry names it; its bytes are the same by each of its paths. P11.1
func TestLinks(t *testing.T) {
	f, m := fs.New(), newModel()
	must(t, f, m, fs.Op{Kind: mkDir, A: "/d"}, fs.Op{Kind: mkFile, A: "/f"}, fs.Op{Kind: mkSym, A: "/s", Data: "f"})
	for i := range 20 {
		dir := []string{"/", "/d/"}[i%2]
		must(t, f, m, fs.Op{Kind: link, A: "/f", B: dir + "f" + strconv.Itoa(i)}, fs.Op{Kind: link, A: "/s", B: dir + "s" + strconv.Itoa(i)})
	}
	must(t, f, m, fs.Op{Kind: write, A: "/d/f7", Data: "seen"}, fs.Op{Kind: chmod, A: "/s4", N: 9})
	check(t, f, m)
	for _, path := range []string{"/f", "/f2", "/d/f3", "/f18"} {
		if s, err := f.Read(path, 0, 9); s != "seen" || err != api.OK {
			t.Errorf("%s: %q, %d", path, s, err)
		}
	}
	must(t, f, m, fs.Op{Kind: unlink, A: "/f"}, fs.Op{Kind: unlink, A: "/s"})
	for i := range 20 {
		dir := []string{"/", "/d/"}[i%2]
		if !slices.Equal(f.Inos(), []int{1, 2, 3, 4}) {
			t.Fatalf("behind %d: %v", i, f.Inos())
		}
		must(t, f, m, fs.Op{Kind: unlink, A: dir + "f" + strconv.Itoa(i)}, fs.Op{Kind: unlink, A: dir + "s" + strconv.Itoa(i)})
	}
	check(t, f, m)
	if !slices.Equal(f.Inos(), []int{1, 2}) || f.Next() != 5 {
		t.Errorf("%v, %d", f.Inos(), f.Next())
	}
	must(t, f, m, fs.Op{Kind: mkFile, A: "/f"}) // of a number of its own
	if ino, _, _ := f.Find("/f"); ino != 5 {
		t.Errorf("a number twice: %d", ino)
	}
}

// P11.1
func TestClone(t *testing.T) {
	f, m := fs.New(), newModel()
	must(t, f, m, fs.Op{Kind: mkFile, A: "/a"}, fs.Op{Kind: mkFile, A: "/b"}, fs.Op{Kind: write, A: "/b", Data: "0123456789"},
		fs.Op{Kind: clone, A: "/a", B: "/b", Off: 3, From: 4, N: 5},
		fs.Op{Kind: clone, A: "/b", B: "/b", Off: 2, From: 0, N: 10}, // its bytes as they were
		fs.Op{Kind: clone, A: "/a", B: "/b", Off: 4000, From: 12, N: 0})
	check(t, f, m)
	for path, want := range map[string]string{"/a": "\x00\x00\x0045678", "/b": "010123456789"} {
		if s, err := f.Read(path, 0, 5000); s != want || err != api.OK {
			t.Errorf("%s: %q, %d", path, s, err)
		}
	}
	must(t, f, m, fs.Op{Kind: write, A: "/b", Data: "XYZ"})
	if s, _ := f.Read("/a", 3, 5); s != "45678" {
		t.Errorf("a clone is another file's: %q", s)
	}
}

// P11.1
func TestRead(t *testing.T) {
	f, m := some(t)
	for _, path := range append(m.paths(), "", "x", "/d/", "/none", "/none/x", "/g/x", "/s/x", deep("x", 9)) {
		for _, off := range []int{math.MinInt, -1, 0, 1, 4, 5, 6, 4095, 4096, 4097, math.MaxInt} {
			for _, n := range []int{math.MinInt, -1, 0, 1, 3, 5, 6, 4096, 4097, math.MaxInt} {
				checkRead(t, f, m, path, off, n)
			}
		}
	}
	check(t, f, m)
	for path, want := range map[string]api.Errno{"": api.ErrName, "/none": api.ErrNone, "/g/x": api.ErrNotDir, "/d": api.ErrIsDir, "/": api.ErrIsDir, "/s": api.ErrKind, "/g": api.ErrRange} {
		if s, err := f.Read(path, -1, -1); s != "" || err != want {
			t.Errorf("Read(%q) = %q, %d", path, s, err)
		}
	}
}

// P11.1
func TestFind(t *testing.T) {
	f, m := some(t)
	for _, path := range append(m.paths(), "", "/", "//", "d", "/d/", "/./d", "/d/..", "/none", "/none/x", "/g/x", "/g/x/y", "/s/f", "/d/s/f", "/d/none", "/D", "/d\x00", deep("d", 8), deep("d", 9), "/"+strings.Repeat("n", 17)) {
		checkFind(t, f, m, path)
	}
	if ino, x, err := f.Find("/"); ino != 1 || x.Kind != api.Dir || len(x.Entries) != 4 || err != api.OK {
		t.Errorf("%d, %v, %d", ino, x, err)
	}
}

// Numbers whose last 4 bytes are a node's are none. P11.1
func TestNodeOfNoNumber(t *testing.T) {
	f, m := some(t)
	for _, base := range []int{1 << 31, 1 << 32, 1 << 40, -1 << 31, -1 << 32, math.MinInt, 256, 1 << 24} {
		for i := range 10 {
			checkNoNode(t, f, m.nodes(), base+i, base-i)
		}
	}
}

// P11.1
func TestFullDirectory(t *testing.T) {
	f, m := fs.New(), newModel()
	must(t, f, m, fs.Op{Kind: mkDir, A: "/full"}, fs.Op{Kind: mkFile, A: "/f"}, fs.Op{Kind: mkDir, A: "/d"})
	for i := range 64 {
		path := "/full/n" + strconv.Itoa(i)
		must(t, f, m, []fs.Op{{Kind: mkFile, A: path}, {Kind: mkDir, A: path}, {Kind: mkSym, A: path, Data: "t"}, {Kind: link, A: "/f", B: path}}[i%4])
	}
	check(t, f, m)
	refused(t, f, m, api.ErrLong, fs.Op{Kind: mkFile, A: "/full/more"}, fs.Op{Kind: mkDir, A: "/full/more"}, fs.Op{Kind: mkSym, A: "/full/more", Data: "t"},
		fs.Op{Kind: link, A: "/f", B: "/full/more"}, fs.Op{Kind: link, A: "/full/n0", B: "/full/more"},
		fs.Op{Kind: rename, A: "/f", B: "/full/more"}, fs.Op{Kind: rename, A: "/d", B: "/full/more"})
	must(t, f, m, fs.Op{Kind: rename, A: "/full/n4", B: "/full/n5/in"}, fs.Op{Kind: rename, A: "/full/n5/in", B: "/full/n4"}) // it has room for one
	refused(t, f, m, api.ErrLong, fs.Op{Kind: mkDir, A: "/full/more"})
	for i := range 64 { // its own entries may get other names
		must(t, f, m, fs.Op{Kind: rename, A: "/full/n" + strconv.Itoa(i), B: "/full/" + strconv.Itoa(i) + "m"})
	}
	check(t, f, m)
	must(t, f, m, fs.Op{Kind: unlink, A: "/full/0m"}, fs.Op{Kind: link, A: "/f", B: "/full/more"})
	refused(t, f, m, api.ErrLong, fs.Op{Kind: link, A: "/f", B: "/full/still"})
	check(t, f, m)
}

// fill makes nodes till there are so many.
func fill(t *testing.T, f *fs.FS, m *model, nodes int) {
	t.Helper()
	count := len(f.Inos())
	for dir := 0; count < nodes; dir++ {
		path := "/fill" + strconv.Itoa(dir)
		must(t, f, m, fs.Op{Kind: mkDir, A: path})
		count++
		for i := 0; i < 64 && count < nodes; i++ {
			must(t, f, m, fs.Op{Kind: mkFile, A: path + "/" + strconv.Itoa(i)})
			count++
		}
	}
}

// P11.1
func TestMostNodes(t *testing.T) {
	f, m := fs.New(), newModel()
	must(t, f, m, fs.Op{Kind: mkFile, A: "/f"}, fs.Op{Kind: link, A: "/f", B: "/g"}, fs.Op{Kind: mkDir, A: "/d"})
	fill(t, f, m, 255)
	must(t, f, m, fs.Op{Kind: mkSym, A: "/last", Data: "t"})
	check(t, f, m)
	refused(t, f, m, api.ErrNoSpace, fs.Op{Kind: mkFile, A: "/more"}, fs.Op{Kind: mkDir, A: "/more"}, fs.Op{Kind: mkSym, A: "/more", Data: "t"})
	refused(t, f, m, api.ErrRange, fs.Op{Kind: mkFile, A: "/more", N: 512})
	refused(t, f, m, api.ErrLong, fs.Op{Kind: mkFile, A: "/fill0/more"})
	must(t, f, m, fs.Op{Kind: link, A: "/f", B: "/more"}, fs.Op{Kind: unlink, A: "/f"})
	refused(t, f, m, api.ErrNoSpace, fs.Op{Kind: mkFile, A: "/f"}) // an entry went, no node
	must(t, f, m, fs.Op{Kind: unlink, A: "/g"}, fs.Op{Kind: unlink, A: "/more"}, fs.Op{Kind: mkFile, A: "/f"})
	refused(t, f, m, api.ErrNoSpace, fs.Op{Kind: mkFile, A: "/more"})
	must(t, f, m, fs.Op{Kind: rmdir, A: "/d"}, fs.Op{Kind: mkDir, A: "/more"})
	check(t, f, m)
	if f.Next() != 259 || len(f.Inos()) != 256 {
		t.Errorf("%d, %d nodes", f.Next(), len(f.Inos()))
	}
}

// Directories of every height go to every depth. P11.1, P11.3
func TestDepths(t *testing.T) {
	for _, last := range []int{mkFile, mkDir, mkSym} {
		for height := range 8 {
			for depth := range 8 {
				f, m := fs.New(), newModel()
				for n := range depth {
					must(t, f, m, fs.Op{Kind: mkDir, A: deep("b", n+1)})
				}
				must(t, f, m, fs.Op{Kind: mkDir, A: "/a"})
				for n := 1; n < height; n++ {
					must(t, f, m, fs.Op{Kind: mkDir, A: deep("a", n+1)}, fs.Op{Kind: mkFile, A: deep("a", n) + "/side"})
				}
				if height > 0 {
					must(t, f, m, fs.Op{Kind: last, A: deep("a", height+1), Data: "t"})
				}
				want := api.OK
				if depth+1+height > 8 {
					want = api.ErrLong
				}
				if err := checkDo(t, f, m, fs.Op{Kind: rename, A: "/a", B: deep("b", depth) + "/new"}); err != want {
					t.Errorf("a directory of height %d below %d names: %d, want %d", height, depth, err, want)
				}
				check(t, f, m)
			}
		}
	}
}

// The deepest path counts, whichever of its entries it goes through. P11.1
func TestDeepestPathCounts(t *testing.T) {
	for at := range 9 {
		f, m := fs.New(), newModel()
		must(t, f, m, fs.Op{Kind: mkDir, A: "/a"}, fs.Op{Kind: mkFile, A: "/f"})
		for i := range 9 {
			must(t, f, m, fs.Op{Kind: mkDir, A: "/a/" + strconv.Itoa(i)})
		}
		dir := "/a/" + strconv.Itoa(at)
		must(t, f, m, fs.Op{Kind: mkDir, A: dir + "/x"}, fs.Op{Kind: link, A: "/f", B: dir + "/x/f"})
		for n := range 5 {
			must(t, f, m, fs.Op{Kind: mkDir, A: deep("b", n+1)})
		}
		refused(t, f, m, api.ErrLong, fs.Op{Kind: rename, A: "/a", B: deep("b", 5) + "/a"})
		must(t, f, m, fs.Op{Kind: rename, A: "/f", B: deep("b", 5) + "/f"}) // its other path doesn't count
		must(t, f, m, fs.Op{Kind: rename, A: "/a", B: deep("b", 4) + "/a"})
		check(t, f, m)
	}
}

// What is moved by part of its own path. P11.1
func TestRenameUpAndDown(t *testing.T) {
	f, m := some(t)
	must(t, f, m, fs.Op{Kind: rename, A: "/d/in", B: "/e/in"}, fs.Op{Kind: rename, A: "/e", B: "/d/e"}, fs.Op{Kind: rename, A: "/d/e/in/h", B: "/h"}, fs.Op{Kind: rename, A: "/d/e/in", B: "/in"},
		fs.Op{Kind: rename, A: "/d", B: "/in/d"}, fs.Op{Kind: rename, A: "/in", B: "/inner"}, fs.Op{Kind: rename, A: "/s", B: "/inner/d/e/s"}, fs.Op{Kind: rename, A: "/g", B: "/a"})
	check(t, f, m)
	if ino, _, err := f.Find("/inner/d/e/s"); ino != 4 || err != api.OK {
		t.Errorf("%d, %d", ino, err)
	}
	must(t, f, m, fs.Op{Kind: rename, A: "/inner/d", B: "/inner/dd"}, fs.Op{Kind: rename, A: "/inner/dd", B: "/inner/d"})
	refused(t, f, m, api.ErrLoop, fs.Op{Kind: rename, A: "/inner", B: "/inner/d/e/x"}, fs.Op{Kind: rename, A: "/inner/d", B: "/inner/d/x"})
	must(t, f, m, fs.Op{Kind: rename, A: "/inner/d", B: "/inner2"}, fs.Op{Kind: rename, A: "/inner", B: "/inner2/x"}) // no name of it, only its bytes
	check(t, f, m)
}

// A file may get as long as may be, and no longer. P11.1
func TestLongestFile(t *testing.T) {
	f, m := fs.New(), newModel()
	must(t, f, m, fs.Op{Kind: mkFile, A: "/f"}, fs.Op{Kind: write, A: "/f", Off: 4095, Data: "x"}, fs.Op{Kind: write, A: "/f", Data: mixed(4096)}, fs.Op{Kind: write, A: "/f", Off: 4096})
	refused(t, f, m, api.ErrLong, fs.Op{Kind: write, A: "/f", Off: 4096, Data: "x"}, fs.Op{Kind: write, A: "/f", Off: 1, Data: mixed(4096)}, fs.Op{Kind: write, A: "/f", Off: 4097}, fs.Op{Kind: trunc, A: "/f", N: 4097}, fs.Op{Kind: clone, A: "/f", B: "/f", Off: 1, N: 4096})
	check(t, f, m)
	for _, n := range []int{4096, 4095, 17, 16, 0, 1, 4096} {
		must(t, f, m, fs.Op{Kind: trunc, A: "/f", N: n})
		check(t, f, m)
	}
}

// A copy goes its own way, and so do the map and what Of made of it. P11.1, P11.3
func TestCopies(t *testing.T) {
	f, m := some(t)
	g, n := f.Copy(), m.copied()
	kept := f.Map()
	h, err := fs.Of(kept, f.Next())
	if err != api.OK {
		t.Fatal(err)
	}
	k := m.copied()
	must(t, f, m, fs.Op{Kind: write, A: "/g", Data: "other"}, fs.Op{Kind: unlink, A: "/d/f"}, fs.Op{Kind: mkDir, A: "/of f"}, fs.Op{Kind: rename, A: "/d", B: "/of f/d"})
	check(t, g, n)
	check(t, h, k)
	must(t, g, n, fs.Op{Kind: chmod, A: "/", N: 0}, fs.Op{Kind: mkFile, A: "/of g"}, fs.Op{Kind: mkFile, A: "/of g too"})
	check(t, f, m)
	check(t, h, k)
	must(t, h, k, fs.Op{Kind: unlink, A: "/s"}, fs.Op{Kind: unlink, A: "/d/s"}, fs.Op{Kind: rmdir, A: "/e"})
	check(t, f, m)
	check(t, g, n)
	check(t, h, k)
	again, _ := some(t)
	if kept.Name() != again.Map().Name() {
		t.Error("a map was changed")
	}
}

// P11.3
func TestRandomOperations(t *testing.T) {
	rounds := 25
	if testing.Short() {
		rounds = 8
	}
	for round := range rounds {
		r := rand.New(rand.NewSource(int64(round)))
		f, m := fs.New(), newModel()
		count := map[api.Errno]int{}
		var held []*fs.FS
		var want []*model
		for step := range 600 {
			o := randomOp(r, m)
			count[checkDo(t, f, m, o)]++
			if step%40 == 0 {
				check(t, f, m)
				held, want = append(held, f.Copy()), append(want, m.copied())
				again, err := fs.Of(f.Map(), f.Next())
				if err != api.OK {
					t.Fatalf("Of: %d", err)
				}
				check(t, again, m)
				f = again
			}
			path := randomPath(r, m)
			checkFind(t, f, m, path)
			checkRead(t, f, m, path, r.Intn(40)-2, r.Intn(40)-2)
		}
		check(t, f, m)
		for i, g := range held {
			check(t, g, want[i])
		}
		if count[api.OK] < 200 || len(count) < 8 {
			t.Errorf("round %d: %v", round, count)
		}
	}
}

// randomPath is one that's there, one beside it, or none.
func randomPath(r *rand.Rand, m *model) string {
	switch r.Intn(30) {
	case 0:
		return []string{"", "//", "/..", "x/\x00", "/" + strings.Repeat("n", 17), deep("a", 9)}[r.Intn(6)]
	case 1, 2:
		return "/"
	case 3:
		return strings.TrimSuffix(randomOf(r, m, api.File, api.Dir, api.Sym), "/") + "/" + string(rune('a'+r.Intn(12))) + "/z"
	}
	if r.Intn(2) == 0 {
		return newPath(r, m)
	}
	return randomOf(r, m, api.File, api.Dir, api.Sym)
}

// randomOf is a path of a node of one of those Kinds.
func randomOf(r *rand.Rand, m *model, kinds ...int) string {
	var paths []string
	for _, path := range m.paths() {
		names, _ := wantNames(path)
		if x, _ := m.walk(names); slices.Contains(kinds, x.kind) {
			paths = append(paths, path)
		}
	}
	if len(paths) == 0 {
		return "/"
	}
	return paths[r.Intn(len(paths))]
}

// newPath is one within a directory, likely of no node.
func newPath(r *rand.Rand, m *model) string {
	return strings.TrimSuffix(randomOf(r, m, api.Dir), "/") + "/" + string(rune('a'+r.Intn(26)))
}

func randomOp(r *rand.Rand, m *model) fs.Op {
	number := func() int {
		switch r.Intn(12) {
		case 0:
			return []int{-1, 511, 512, 4095, 4096, 4097, math.MinInt, math.MaxInt}[r.Intn(8)]
		case 1:
			return r.Intn(600)
		}
		return r.Intn(60)
	}
	o := fs.Op{Kind: 1 + r.Intn(11), Off: number(), From: number(), N: number(), Data: mixed(100)[:r.Intn(40)]}
	switch o.Kind {
	case mkFile, mkDir, mkSym:
		o.A = newPath(r, m)
	case rmdir:
		o.A = randomOf(r, m, api.Dir)
	case link, rename:
		o.A, o.B = randomOf(r, m, api.File, api.Dir, api.Sym), newPath(r, m)
	case write, trunc:
		o.A = randomOf(r, m, api.File)
	case clone:
		o.A, o.B = randomOf(r, m, api.File), randomOf(r, m, api.File)
		o.From, o.N = r.Intn(10), r.Intn(10)
	default:
		o.A = randomOf(r, m, api.File, api.Sym)
	}
	switch r.Intn(12) {
	case 0:
		o.A = randomPath(r, m)
	case 1:
		o.B = randomPath(r, m)
	case 2:
		o.Data = mixed(4200)[:r.Intn(4200)]
	case 3:
		o.Kind = r.Intn(30) - 10
	}
	return o
}

// At the end of the numbers none is given twice, nor one that no map may have. P11.2, P11.3
func TestEndOfNumbers(t *testing.T) {
	_, m := some(t)
	f, err := fs.Of(mapOf(m.nodes()), maxIno-1)
	if err != api.OK {
		t.Fatal(err)
	}
	m.next = maxIno - 1
	must(t, f, m, fs.Op{Kind: mkFile, A: "/a"}, fs.Op{Kind: mkDir, A: "/b"})
	check(t, f, m)
	if ino, _, _ := f.Find("/b"); ino != maxIno || f.Next() != maxIno+1 {
		t.Errorf("%d, %d", ino, f.Next())
	}
	refused(t, f, m, api.ErrNoSpace, fs.Op{Kind: mkFile, A: "/c"}, fs.Op{Kind: mkDir, A: "/c"}, fs.Op{Kind: mkSym, A: "/c", Data: "t"})
	must(t, f, m, fs.Op{Kind: rmdir, A: "/b"}, fs.Op{Kind: link, A: "/a", B: "/c"}, fs.Op{Kind: write, A: "/c", Data: "x"})
	refused(t, f, m, api.ErrNoSpace, fs.Op{Kind: mkFile, A: "/b"})
	check(t, f, m)
}

// lent: a text whose memory the test may change, as no program's.
func lent(handed *[][]byte, s string) string {
	b := []byte(s)
	*handed = append(*handed, b)
	return unsafe.String(&b[0], len(b))
}

// Rule 3: what is handed in isn't kept.
func TestArgumentsAreNotKept(t *testing.T) {
	f, m := fs.New(), newModel()
	var handed [][]byte
	for _, o := range []fs.Op{{Kind: mkDir, A: "/d"}, {Kind: mkFile, A: "/d/f"}, {Kind: write, A: "/d/f", Data: "the file's bytes"}, {Kind: mkSym, A: "/s", Data: "a target"}, {Kind: link, A: "/d/f", B: "/d/link"}, {Kind: rename, A: "/s", B: "/d/sym"}, {Kind: write, A: "/d/link", Data: "T", Off: 0}, {Kind: trunc, A: "/d/link", N: 9}, {Kind: clone, A: "/d/link", B: "/d/f", Off: 3, N: 2}} {
		if err := m.do(o); err != api.OK {
			t.Fatal(short(o), err)
		}
		o.A = lent(&handed, o.A)
		if o.B != "" {
			o.B = lent(&handed, o.B)
		}
		if o.Data != "" {
			o.Data = lent(&handed, o.Data)
		}
		if err := f.Do(o); err != api.OK {
			t.Fatal(short(o), err)
		}
	}
	for _, b := range handed {
		copy(b, bytes.Repeat([]byte("!"), len(b)))
	}
	check(t, f, m)
}

// Rule 3: answers are new memory.
func TestAnswersAreNew(t *testing.T) {
	f, m := some(t)
	change := func(x api.Node) {
		l := x.Entries[:cap(x.Entries)]
		for i := range l {
			l[i] = api.Entry{Name: "changed", Ino: -1}
		}
	}
	_, one, _ := f.Find("/d")
	_, two, _ := f.Find("/d")
	three, _ := f.Node(2)
	four, _ := f.Node(2)
	change(one)
	if !equal(two, m.nodes()[2]) || !equal(three, two) {
		t.Error("two answers share memory")
	}
	change(three)
	if !equal(four, two) {
		t.Error("two answers share memory")
	}
	inos, other := f.Inos(), f.Inos()
	for i := range inos[:cap(inos)] {
		inos[:cap(inos)][i] = -1
	}
	if !slices.Equal(other, f.Inos()) {
		t.Error("two answers share memory")
	}
	check(t, f, m)
}

// Rule 5: every call ends, however long texts are.
func TestLongOnes(t *testing.T) {
	f, m := some(t)
	const long = 1 << 24
	data := strings.Repeat("n", long)
	for _, path := range []string{data, "/" + data, strings.Repeat("/", long), strings.Repeat("/n", long/2)} {
		for kind := mkFile; kind <= chmod; kind++ {
			if err := f.Do(fs.Op{Kind: kind, A: path, B: "/"}); err != api.ErrName {
				t.Errorf("Do of the Kind %d = %d", kind, err)
			}
		}
		for _, kind := range []int{link, rename, clone} {
			if err := f.Do(fs.Op{Kind: kind, A: "/", B: path}); err != api.ErrName {
				t.Errorf("Do of the Kind %d = %d", kind, err)
			}
		}
		if _, _, err := f.Find(path); err != api.ErrName {
			t.Error(err)
		}
		if s, err := f.Read(path, 0, 1); s != "" || err != api.ErrName {
			t.Error(err)
		}
	}
	refused(t, f, m, api.ErrRange, fs.Op{Kind: mkSym, A: "/q", Data: data})
	refused(t, f, m, api.ErrLong, fs.Op{Kind: write, A: "/g", Data: data})
	check(t, f, m)
}

// Bytes are operations: of each a Kind, two paths of few names, two numbers and few bytes.
func FuzzOperations(f *testing.F) {
	f.Add([]byte("\x02\x10\x00\x00\x05\x01\x12\x00\x00\x05\x04\x12\x30\x00\x00"))
	f.Fuzz(func(t *testing.T, b []byte) {
		path := func(c byte) string {
			if c == 0 {
				return "/"
			}
			s := ""
			for ; c > 0; c /= 4 {
				s += "/" + string(rune('a'+c%4))
			}
			return s
		}
		f, m := fs.New(), newModel()
		for ; len(b) >= 5; b = b[5:] {
			n := int(int8(b[3])) * 17
			checkDo(t, f, m, fs.Op{Kind: int(b[0] % 13), A: path(b[1]), B: path(b[2]), Off: n, From: int(int8(b[4])), N: n, Data: string(b[:5])})
		}
		check(t, f, m)
	})
}
