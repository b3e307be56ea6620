package name_test

import (
	"bytes"
	"math/rand"
	"slices"
	"strconv"
	"strings"
	"testing"
	"unsafe"

	"snapferry/api"
	"snapferry/name"
)

const (
	longest = 16
	deepest = 8
)

// wantRight goes byte by byte.
func wantRight(s string) bool {
	for i := range len(s) {
		if s[i] == '/' || s[i] == 0 {
			return false
		}
	}
	return len(s) >= 1 && len(s) <= longest && s != "." && s != ".."
}

func wantAllRight(names []string) bool {
	for _, n := range names {
		if !wantRight(n) {
			return false
		}
	}
	return len(names) <= deepest
}

// wantNames goes byte by byte.
func wantNames(path string) ([]string, bool) {
	if path == "/" {
		return nil, true
	}
	if path == "" || path[0] != '/' {
		return nil, false
	}
	var names []string
	for i := range len(path) {
		if path[i] == '/' {
			names = append(names, "")
		} else {
			names[len(names)-1] += path[i : i+1]
		}
	}
	if !wantAllRight(names) {
		return nil, false
	}
	return names, true
}

func wantPath(names []string) string {
	path := ""
	for _, n := range names {
		path += "/" + n
	}
	return path + "/"[:max(0, 1-len(names))]
}

func wantWithin(a, b string) bool {
	outer, isPath := wantNames(a)
	inner, other := wantNames(b)
	if !isPath || !other || len(inner) < len(outer) {
		return false
	}
	for i := range outer {
		if inner[i] != outer[i] {
			return false
		}
	}
	return true
}

// short is a text, told in a few bytes.
func short(s string) string {
	return strconv.Itoa(len(s)) + " bytes " + strconv.Quote(s[:min(len(s), 160)])
}

func checkRight(t *testing.T, s string) {
	t.Helper()
	if got := name.Right(s); got != wantRight(s) {
		t.Errorf("Right(%s) = %v", short(s), got)
	}
}

// checkPath holds what is told of a text against the model, whether it's a path or not.
func checkPath(t *testing.T, s string) {
	t.Helper()
	want, isPath := wantNames(s)
	wantErr := api.ErrName
	if isPath {
		wantErr = api.OK
	}
	if l, err := name.Split(s); !slices.Equal(l, want) || err != wantErr {
		t.Errorf("Split(%s) = %q, %d, want %q, %d", short(s), l, err, want, wantErr)
	}
	if got := name.Within(s, s); got != isPath {
		t.Errorf("Within(%s, itself) = %v", short(s), got)
	}
	if name.Within("/", s) != isPath || name.Within(s, "/") != (s == "/") {
		t.Errorf("Within, of %s and /", short(s))
	}
	checkParent(t, s, want, wantErr)
}

func checkParent(t *testing.T, s string, names []string, want api.Errno) {
	t.Helper()
	var parent, last string
	switch {
	case want == api.OK && len(names) == 0:
		want = api.ErrState
	case want == api.OK:
		parent, last = wantPath(names[:len(names)-1]), names[len(names)-1]
	}
	if p, n, err := name.Parent(s); p != parent || n != last || err != want {
		t.Errorf("Parent(%s) = %q, %q, %d, want %q, %q, %d", short(s), p, n, err, parent, last, want)
	}
}

// checkNames: right names are joined, and what was joined is split; others aren't.
func checkNames(t *testing.T, names []string) {
	t.Helper()
	path, err := name.Join(names)
	if !wantAllRight(names) {
		if path != "" || err != api.ErrName {
			t.Errorf("Join(%q) = %q, %d", names, path, err)
		}
		return
	}
	if path != wantPath(names) || err != api.OK {
		t.Errorf("Join(%q) = %q, %d", names, path, err)
	}
	if l, err := name.Split(path); !slices.Equal(l, names) || err != api.OK {
		t.Errorf("Split(Join(%q)) = %q, %d", names, l, err)
	}
	checkPath(t, path)
}

func checkWithin(t *testing.T, a, b string) {
	t.Helper()
	if got := name.Within(a, b); got != wantWithin(a, b) {
		t.Errorf("Within(%s, %s) = %v", short(a), short(b), got)
	}
}

// texts: all of at most so many of the letters.
func texts(letters string, most int) []string {
	l := []string{""}
	if most == 0 {
		return l
	}
	shorter := texts(letters, most-1)
	for i := range len(letters) {
		for _, rest := range shorter {
			l = append(l, letters[i:i+1]+rest)
		}
	}
	return l
}

func same(n int, s string) []string { return slices.Repeat([]string{s}, n) }

// P9.1
func TestExample(t *testing.T) {
	if l, err := name.Split("/a/b"); !slices.Equal(l, []string{"a", "b"}) || err != api.OK {
		t.Errorf("Split = %q, %d", l, err)
	}
	if p, n, err := name.Parent("/a/b"); p != "/a" || n != "b" || err != api.OK {
		t.Errorf("Parent = %q, %q, %d", p, n, err)
	}
	if s, err := name.Join([]string{"a", "b"}); s != "/a/b" || err != api.OK {
		t.Errorf("Join = %q, %d", s, err)
	}
}

// P9.1
func TestRight(t *testing.T) {
	for s, want := range map[string]bool{
		"a": true, " ": true, "-": true, "...": true, ". ": true, "..a": true, ".a": true, "a.": true, "\n": true, "\\": true,
		"\xff\xfe": true, "\xc0\x80": true, "é": true, "∕": true, "~": true,
		"": false, ".": false, "..": false, "/": false, "a/": false, "/a": false, "a/b": false, "\x00": false, "a\x00": false, "\x00a": false,
		strings.Repeat("n", 16): true, strings.Repeat("n", 17): false, strings.Repeat(".", 16): true,
		strings.Repeat("é", 8): true, strings.Repeat("é", 9): false, strings.Repeat("€", 5) + "a": true, strings.Repeat("€", 6): false,
		strings.Repeat("n", 15) + "/": false, strings.Repeat("n", 15) + "\x00": false, "/" + strings.Repeat("n", 15): false,
	} {
		if name.Right(s) != want || wantRight(s) != want {
			t.Errorf("Right(%q) = %v", s, !want)
		}
	}
}

// Each byte may be in a name but two, wherever it stands. P9.1
func TestRightOfEachByte(t *testing.T) {
	for b := range 256 {
		one := string([]byte{byte(b)})
		for n := range longest {
			for at := range n + 1 {
				s := strings.Repeat("n", at) + one + strings.Repeat("n", n-at)
				checkRight(t, s)
				checkPath(t, "/"+s)
				checkNames(t, []string{"a", s})
			}
		}
	}
	for n := range 70 {
		for _, s := range []string{"a", ".", "\xff", "é"} {
			checkRight(t, strings.Repeat(s, n))
			checkPath(t, "/b/"+strings.Repeat(s, n))
		}
	}
}

// P9.1, P9.2
func TestAllShortTexts(t *testing.T) {
	for _, s := range texts("/.a\x00\xff", 6) {
		checkRight(t, s)
		checkPath(t, s)
		checkPath(t, "/"+s)
	}
	for _, s := range texts("/.a", 9) {
		checkPath(t, s)
	}
}

// P9.1
func TestNoPaths(t *testing.T) {
	for _, s := range []string{
		"", "a", "a/", "a/b", "//", "///", "//a", "/a/", "/a//b", "/a/b/", "/.", "/..", "/./a", "/a/.", "/../a", "/a/..", "/a/../b",
		"/\x00", "/a\x00b", "/a/\x00", "\x00/a", " /a", "\\a", "/" + strings.Repeat("n", 17), "/a/" + strings.Repeat("n", 17) + "/b",
		strings.Repeat("/a", 9), strings.Repeat("/a", 8) + "/", strings.Repeat("/", 8), strings.Repeat("/", 9), strings.Repeat("/a", 1000),
	} {
		if l, err := name.Split(s); len(l) != 0 || err != api.ErrName {
			t.Errorf("Split(%s) = %q, %d", short(s), l, err)
		}
		if p, n, err := name.Parent(s); p != "" || n != "" || err != api.ErrName {
			t.Errorf("Parent(%s) = %q, %q, %d", short(s), p, n, err)
		}
		for _, other := range []string{s, "/", "/a", "/a/b"} {
			if name.Within(s, other) || name.Within(other, s) {
				t.Errorf("Within, of %s and %s", short(s), other)
			}
		}
	}
}

// P9.1, P9.2
func TestDepths(t *testing.T) {
	for n := range 20 {
		for _, s := range []string{"a", "...", "\xff", strings.Repeat("n", longest), "", ".", strings.Repeat("n", longest+1)} {
			checkNames(t, same(n, s))
			checkPath(t, strings.Repeat("/"+s, n))
			for at := range n { // one alone is another, perhaps none
				l := same(n, "b")
				l[at] = s
				checkNames(t, l)
				checkPath(t, strings.Join(append([]string{""}, l...), "/"))
			}
		}
	}
}

// P9.1
func TestJoinRefuses(t *testing.T) {
	for _, l := range [][]string{
		{""}, {"."}, {".."}, {"/"}, {"a/b"}, {"/a"}, {"a/"}, {"\x00"}, {strings.Repeat("n", 17)},
		{"a", ""}, {"", "a"}, {"a", "..", "b"}, {"a", "b", "."}, {"a", "", "b"},
		same(9, "a"), same(9, ""), same(1000, "a"), append(same(7, "a"), "."), append(same(8, "a"), ""),
	} {
		if s, err := name.Join(l); s != "" || err != api.ErrName {
			t.Errorf("Join(%q) = %q, %d", l, s, err)
		}
	}
}

// No names, told in either way, are those of /. P9.1, P9.2
func TestTop(t *testing.T) {
	for _, none := range [][]string{nil, {}} {
		if s, err := name.Join(none); s != "/" || err != api.OK {
			t.Errorf("Join of none = %q, %d", s, err)
		}
	}
	if l, err := name.Split("/"); len(l) != 0 || err != api.OK {
		t.Errorf("Split(/) = %q, %d", l, err)
	}
	if p, n, err := name.Parent("/"); p != "" || n != "" || err != api.ErrState {
		t.Errorf("Parent(/) = %q, %q, %d", p, n, err)
	}
	if p, n, err := name.Parent("/a"); p != "/" || n != "a" || err != api.OK {
		t.Errorf("Parent(/a) = %q, %q, %d", p, n, err)
	}
	if !name.Within("/", "/") {
		t.Error("/ isn't within itself")
	}
}

// P9.1
func TestWithin(t *testing.T) {
	deep := strings.Repeat("/a", 8)
	for _, x := range []struct {
		a, b string
		want bool
	}{
		{"/a", "/a", true}, {"/a", "/a/b", true}, {"/a", "/a/b/c", true}, {"/a/b", "/a/b/c", true}, {"/", "/a", true}, {"/", deep, true},
		{"/a", deep, true}, {deep, deep, true}, {deep[2:], deep, true}, {"/...", "/.../a", true},
		{"/a/b", "/a", false}, {"/a", "/", false}, {"/a", "/ab", false}, {"/a", "/ab/c", false}, {"/ab", "/a", false}, {"/a/b", "/a/bc", false},
		{"/a", "/b", false}, {"/a", "/b/a", false}, {"/a/b", "/a/c", false}, {"/a/b", "/b/a", false}, {"/b", "/a/b", false}, {deep, deep[2:], false},
		{"/a", "/A", false}, {"/é", "/e\u0301", false}, {"/\xff", "/\xfe", false},
		{"", "/a", false}, {"/a", "", false}, {"", "", false}, {"a", "a", false}, {"a", "/a", false}, {"/a", "a", false}, {"a", "a/b", false},
		{"/a/", "/a/b", false}, {"/a", "/a/", false}, {"/a", "/a//b", false}, {"/a", "/a/.", false}, {"/a", "/a/..", false}, {"/a", deep + "/a", false},
		{deep + "/a", deep + "/a", false}, {"/..", "/../a", false}, {"//", "//", false}, {"/a\x00", "/a\x00", false},
	} {
		if name.Within(x.a, x.b) != x.want || wantWithin(x.a, x.b) != x.want {
			t.Errorf("Within(%q, %q) = %v", x.a, x.b, !x.want)
		}
	}
}

// P9.1, P9.2
func TestWithinOfAllPairs(t *testing.T) {
	l := texts("/.a", 4)
	l = append(l, texts("/ab", 5)...)
	for _, a := range l {
		for _, b := range l {
			checkWithin(t, a, b)
		}
	}
}

// Paths that hold each other are one, and what's within what's within a path is within it. P9.1, P9.2
func TestWithinIsAnOrder(t *testing.T) {
	var paths []string
	for _, s := range texts("ab", 4) {
		paths = append(paths, wantPath(strings.Split(s, "")))
	}
	for _, a := range paths {
		for _, b := range paths {
			if a != b && name.Within(a, b) && name.Within(b, a) {
				t.Errorf("%q and %q are within each other", a, b)
			}
			for _, c := range paths {
				if name.Within(a, b) && name.Within(b, c) && !name.Within(a, c) {
					t.Errorf("%q, %q, %q", a, b, c)
				}
			}
		}
	}
}

// A path is its parent and its last name. P9.1, P9.2
func TestParentThereAndBack(t *testing.T) {
	r := rand.New(rand.NewSource(9))
	for range 2000 {
		names := randomNames(r)
		path, err := name.Join(names)
		if err != api.OK {
			t.Fatalf("Join(%q) = %d", names, err)
		}
		for at := len(names); at > 0; at-- {
			parent, last, err := name.Parent(path)
			if last != names[at-1] || err != api.OK || !name.Within(parent, path) || name.Within(path, parent) {
				t.Fatalf("Parent(%q) = %q, %q, %d", path, parent, last, err)
			}
			path = parent
		}
		if path != "/" {
			t.Fatalf("the topmost parent of %q is %q", names, path)
		}
	}
}

// randomNames: up to 8 right ones of any bytes.
func randomNames(r *rand.Rand) []string {
	names := make([]string, r.Intn(deepest+1))
	for i := range names {
		for !wantRight(names[i]) {
			b := make([]byte, 1+r.Intn(longest))
			r.Read(b)
			names[i] = string(b)
		}
	}
	return names
}

// P9.1, P9.2
func TestRandomPaths(t *testing.T) {
	r := rand.New(rand.NewSource(10))
	for range 3000 {
		a, b := randomNames(r), randomNames(r)
		checkNames(t, a)
		checkWithin(t, wantPath(a), wantPath(b))
		both := append(slices.Clone(a), b...)
		checkNames(t, both)
		checkWithin(t, wantPath(a), wantPath(both))
		turned := []byte(wantPath(both))
		turned[r.Intn(len(turned))] = "/.\x00a"[r.Intn(4)]
		checkPath(t, string(turned))
		checkWithin(t, wantPath(a), string(turned))
	}
}

// Rule 5: every call ends, however long the text is.
func TestLongTexts(t *testing.T) {
	const long = 1 << 24
	for _, s := range []string{"/", "a", "/a", "/.", "\x00", "/nnnnnnnnnnnnnnnn"} {
		s = strings.Repeat(s, long/len(s))
		if l, err := name.Split(s); len(l) != 0 || err != api.ErrName {
			t.Errorf("Split(%s) = %d names, %d", short(s[:20]), len(l), err)
		}
		if p, n, err := name.Parent(s); p != "" || n != "" || err != api.ErrName {
			t.Errorf("Parent(%s)", short(s[:20]))
		}
		if name.Right(s) || name.Within(s, s) || name.Within("/", s) || name.Within(s, "/a") {
			t.Errorf("Right, Within of %s", short(s[:20]))
		}
		if path, err := name.Join([]string{s}); path != "" || err != api.ErrName {
			t.Errorf("Join(%s)", short(s[:20]))
		}
	}
	if path, err := name.Join(make([]string, long)); path != "" || err != api.ErrName {
		t.Error("Join of many")
	}
}

// Rule 3: what is handed in stays, its spare room too.
func TestArgumentsStay(t *testing.T) {
	room := []string{"b", "a", "c", "spare", "room"}
	before := slices.Clone(room)
	for n := range room {
		if path, err := name.Join(room[:n]); path != wantPath(before[:n]) || err != api.OK || !slices.Equal(room, before) {
			t.Errorf("handed in %q, left %q", before, room)
		}
	}
}

// Rule 3: what is handed in isn't kept in answers.
func TestArgumentsAreNotKept(t *testing.T) {
	bytesOf := func(s string) ([]byte, string) {
		b := []byte(s)
		return b, unsafe.String(&b[0], len(b)) // whose memory the test may change, as no program's
	}
	b, path := bytesOf("/first/second")
	l, err := name.Split(path)
	parent, last, second := name.Parent(path)
	c, one := bytesOf("single")
	joined, third := name.Join([]string{one})
	if err != api.OK || second != api.OK || third != api.OK {
		t.Fatal(err, second, third)
	}
	copy(b, bytes.Repeat([]byte("x"), len(b)))
	copy(c, "xxxxxx")
	if !slices.Equal(l, []string{"first", "second"}) || parent != "/first" || last != "second" || joined != "/single" {
		t.Errorf("%q, %q, %q, %q", l, parent, last, joined)
	}
}

// Rule 3: no two lists of answers share memory.
func TestAnswersAreNew(t *testing.T) {
	one, _ := name.Split("/a/b/c")
	two, _ := name.Split("/a/b/c")
	one[0] = "changed"
	_ = append(one[:1], "x", "y", "z")
	if !slices.Equal(two, []string{"a", "b", "c"}) {
		t.Errorf("two answers share memory: %q", two)
	}
	if l, err := name.Split("/a/b/c"); !slices.Equal(l, two) || err != api.OK {
		t.Errorf("Split, once more = %q, %d", l, err)
	}
}

func FuzzPaths(f *testing.F) {
	f.Add("/a/b", "/a")
	f.Add("/a/../b", "/")
	f.Add(strings.Repeat("/n", 9), "a/")
	f.Fuzz(func(t *testing.T, a, b string) {
		for _, s := range []string{a, b, a + b, "/" + a, "/" + a + "/" + b} {
			checkRight(t, s)
			checkPath(t, s)
			checkNames(t, strings.Split(s, "/"))
			checkNames(t, []string{s})
			checkWithin(t, a, s)
			checkWithin(t, s, b)
		}
	})
}
