package snap_test

import (
	"fmt"
	"slices"
	"strings"
	"testing"

	"snapferry/api"
	"snapferry/fs"
	"snapferry/snap"
)

const (
	longest = 16 // bytes of a name
	most    = 16 // snapshots
)

// told is all of a file system, in words.
func told(f *fs.FS) string {
	if f == nil {
		return "nothing"
	}
	text := fmt.Sprintf("next %d\n", f.Next())
	for _, ino := range f.Inos() {
		x, ok := f.Node(ino)
		text += fmt.Sprintf("%d %v %d %d %q %q", ino, ok, x.Kind, x.Mode, x.Data, x.Target)
		for _, e := range x.Entries {
			text += fmt.Sprintf(" %q %d", e.Name, e.Ino)
		}
		text += "\n"
	}
	return text
}

// wantName goes byte by byte.
func wantName(s string) bool {
	for i := range len(s) {
		if s[i] == '/' || s[i] == 0 {
			return false
		}
	}
	return len(s) >= 1 && len(s) <= longest && s != "." && s != ".."
}

// shot is a snapshot of the plain model: what of a file system can be told.
type shot struct{ name, text, root string }

// model is a set as the words tell it, a row of snapshots as they were taken.
type model struct{ shots []shot }

func (m *model) find(name string) int {
	return slices.IndexFunc(m.shots, func(x shot) bool { return x.name == name })
}

func (m *model) take(name string, f *fs.FS) api.Errno {
	if !wantName(name) {
		return api.ErrName
	}
	if m.find(name) >= 0 {
		return api.ErrExists
	}
	if len(m.shots) >= most {
		return api.ErrLong
	}
	m.shots = append(m.shots, shot{strings.Clone(name), told(f), f.Map().Name()})
	return api.OK
}

func (m *model) get(name string) (string, api.Errno) {
	if i := m.find(name); i >= 0 {
		return m.shots[i].text, api.OK
	}
	return told(nil), api.ErrNone
}

func (m *model) drop(name string) api.Errno {
	i := m.find(name)
	if i < 0 {
		return api.ErrNone
	}
	m.shots = slices.Delete(m.shots, i, i+1)
	return api.OK
}

func (m *model) names() []string {
	var names []string
	for _, x := range m.shots {
		names = append(names, x.name)
	}
	return slices.Sorted(slices.Values(names))
}

func (m *model) root(root string) (string, bool) {
	first := shot{text: told(nil)}
	for _, x := range m.shots {
		if x.root == root && (first.name == "" || x.name < first.name) {
			first = x
		}
	}
	return first.text, first.name != ""
}

// pair is a set and its model.
type pair struct {
	s *snap.Set
	m *model
}

func newPair(t *testing.T) pair {
	t.Helper()
	p := pair{snap.New(), &model{}}
	p.check(t)
	return p
}

func (p pair) copied() pair {
	return pair{p.s.Copy(), &model{slices.Clone(p.m.shots)}}
}

// take does it to both; the set's answer.
func (p pair) take(t *testing.T, name string, f *fs.FS) api.Errno {
	t.Helper()
	got, want := p.s.Take(name, f), p.m.take(name, f)
	if got != want {
		t.Fatalf("Take(%.40q) = %d, want %d", name, got, want)
	}
	return got
}

// drop likewise.
func (p pair) drop(t *testing.T, name string) api.Errno {
	t.Helper()
	got, want := p.s.Drop(name), p.m.drop(name)
	if got != want {
		t.Fatalf("Drop(%.40q) = %d, want %d", name, got, want)
	}
	return got
}

// must: so it must be answered, and all else must be as the model has it.
func (p pair) must(t *testing.T, want, got api.Errno) {
	t.Helper()
	if got != want {
		t.Errorf("%d, want %d", got, want)
	}
	p.check(t)
}

func (p pair) checkGet(t *testing.T, name string) {
	t.Helper()
	f, err := p.s.Get(name)
	want, wantErr := p.m.get(name)
	if told(f) != want || err != wantErr {
		t.Errorf("Get(%.40q) = %s, %d, want %s, %d", name, told(f), err, want, wantErr)
	}
}

func (p pair) checkRoot(t *testing.T, root string) {
	t.Helper()
	f, ok := p.s.Root(root)
	want, wantOK := p.m.root(root)
	if told(f) != want || ok != wantOK {
		t.Errorf("Root(%x) = %s, %v, want %s, %v", root, told(f), ok, want, wantOK)
	}
}

// check asks for what is there, and for names and roots near it.
func (p pair) check(t *testing.T) {
	t.Helper()
	if got, want := p.s.Names(), p.m.names(); !slices.Equal(got, want) {
		t.Fatalf("Names() = %q, want %q", got, want)
	}
	names := []string{"", ".", "..", "/", "none", strings.Repeat("n", 17)}
	roots := []string{"", "none", fs.New().Map().Name()}
	for _, x := range p.m.shots {
		names = append(names, x.name, x.name+"x", x.name[1:], "/"+x.name, x.name+"\x00", strings.ToUpper(x.name))
		roots = append(roots, x.root, x.root[:31], x.root+"x", x.name)
	}
	for _, name := range names {
		p.checkGet(t, name)
	}
	for _, root := range roots {
		p.checkRoot(t, root)
	}
}

// do: an operation that can be done.
func do(t *testing.T, f *fs.FS, l ...fs.Op) {
	t.Helper()
	for _, o := range l {
		if err := f.Do(o); err != api.OK {
			t.Fatalf("Do(%v) = %d", o, err)
		}
	}
}

// some: a file system with some of each.
func some(t *testing.T) *fs.FS {
	t.Helper()
	f := fs.New()
	do(t, f, fs.Op{Kind: 2, A: "/d", N: 448}, fs.Op{Kind: 1, A: "/d/f", N: 420}, fs.Op{Kind: 3, A: "/s", Data: "/d/f"},
		fs.Op{Kind: 8, A: "/d/f", Off: 2, Data: "bytes"}, fs.Op{Kind: 4, A: "/d/f", B: "/g"}, fs.Op{Kind: 2, A: "/e", N: 0})
	return f
}

// changes are operations that can be done, each, on some, and on what the ones ahead made of it: of each Kind one.
func changes() []fs.Op {
	return []fs.Op{
		{Kind: 8, A: "/d/f", Off: 3, Data: "other"}, {Kind: 9, A: "/g", N: 1}, {Kind: 11, A: "/s", N: 1}, {Kind: 11, A: "/", N: 0},
		{Kind: 1, A: "/d/new", N: 1}, {Kind: 10, A: "/d/new", B: "/g", N: 1}, {Kind: 2, A: "/d/in", N: 7}, {Kind: 3, A: "/d/in/s", Data: "x"},
		{Kind: 7, A: "/d/in", B: "/e/in"}, {Kind: 4, A: "/s", B: "/t"}, {Kind: 5, A: "/s"}, {Kind: 5, A: "/d/f"}, {Kind: 5, A: "/g"},
		{Kind: 5, A: "/e/in/s"}, {Kind: 6, A: "/e/in"}, {Kind: 6, A: "/e"},
	}
}
