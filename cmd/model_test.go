package cmd_test

import (
	"encoding/binary"
	"fmt"
	"maps"
	"slices"
	"strings"
	"testing"

	"snapferry/api"
	"snapferry/cmd"
	"snapferry/fs"
	"snapferry/treap"
)

const (
	maxNodes   = 256
	maxEntries = 64
	maxName    = 16
	maxSize    = 4096
	maxTarget  = 64
	maxMode    = 511
	maxNumber  = 1<<31 - 1
)

// The Kinds of commands.
const (
	mkFile = iota + 1
	mkDir
	mkSym
	enter
	leave
	chmod
	size
	write
	clone
	drop
)

// wantRight goes Kind by Kind: what isn't named is zero.
func wantRight(c cmd.Cmd) bool {
	for _, n := range []int{c.Ino, c.Src, c.Off, c.From, c.N} {
		if n < 0 || n > maxNumber {
			return false
		}
	}
	if len(c.Name) > maxName || len(c.Data) > maxSize {
		return false
	}
	switch c.Kind {
	case 1, 2, 6, 7:
		return c.Src == 0 && c.Off == 0 && c.From == 0 && c.Name == "" && c.Data == ""
	case 3:
		return c.Src == 0 && c.Off == 0 && c.From == 0 && c.N == 0 && c.Name == ""
	case 4:
		return c.Off == 0 && c.From == 0 && c.N == 0 && c.Data == ""
	case 5:
		return c.Ino == 0 && c.Off == 0 && c.From == 0 && c.N == 0 && c.Data == ""
	case 8:
		return c.Src == 0 && c.From == 0 && c.N == 0 && c.Name == ""
	case 9:
		return c.Name == "" && c.Data == ""
	case 10:
		return c.Src == 0 && c.Off == 0 && c.From == 0 && c.N == 0 && c.Name == "" && c.Data == ""
	}
	return false
}

// wantText: of one that can be written; of others, what would stand there.
func wantText(c cmd.Cmd) string {
	var b []byte
	for _, n := range []int{c.Ino, c.Src, c.Off, c.From, c.N} {
		b = binary.BigEndian.AppendUint32(b, uint32(n))
	}
	return string(b) + string([]byte{byte(len(c.Name))}) + c.Name + c.Data
}

// wantCmd: of a text, if it is one's that can be written.
func wantCmd(kind int, s string) (cmd.Cmd, bool) {
	if len(s) < 21 || len(s) < 21+int(s[20]) {
		return cmd.Cmd{}, false
	}
	number := func(at int) int { return int(binary.BigEndian.Uint32([]byte(s[at:]))) }
	end := 21 + int(s[20])
	c := cmd.Cmd{Kind: kind, Ino: number(0), Src: number(4), Off: number(8), From: number(12), N: number(16), Name: s[21:end], Data: s[end:]}
	if !wantRight(c) {
		return cmd.Cmd{}, false
	}
	return c, true
}

// inode is a node of the plain model.
type inode struct {
	kind, mode int
	bytes      string // a file's, or a symbolic link's target
	entries    map[string]int
}

// model is a stage as the words tell it.
type model struct{ nodes, parent map[int]inode }

// inodesOf: what a map of texts says, read by hand.
func inodesOf(t *testing.T, m *treap.Map) map[int]inode {
	t.Helper()
	nodes := map[int]inode{}
	for _, key := range m.Keys() {
		text, _ := m.Get(key)
		if len(key) != 4 || len(text) < 3 {
			t.Fatalf("%x: %x", key, text)
		}
		x := inode{kind: int(text[0]), mode: int(text[1])<<8 | int(text[2])}
		rest := text[3:]
		if x.kind == api.Dir {
			x.entries = map[string]int{}
			for rest != "" {
				end := 1 + int(rest[0])
				x.entries[rest[1:end]] = int(binary.BigEndian.Uint32([]byte(rest[end:])))
				rest = rest[end+4:]
			}
		}
		x.bytes = rest
		nodes[int(binary.BigEndian.Uint32([]byte(key)))] = x
	}
	return nodes
}

// keyOf: a number as 4 bytes, the highest first.
func keyOf(ino int) string { return string(binary.BigEndian.AppendUint32(nil, uint32(ino))) }

func textOf(x inode) string {
	text := string([]byte{byte(x.kind), byte(x.mode >> 8), byte(x.mode)}) + x.bytes
	for _, name := range slices.Sorted(maps.Keys(x.entries)) {
		text += string([]byte{byte(len(name))}) + name + keyOf(x.entries[name])
	}
	return text
}

// mapOf: the model's map of nodes.
func mapOf(nodes map[int]inode) *treap.Map {
	var m *treap.Map
	for ino, x := range nodes {
		m = m.Put(keyOf(ino), textOf(x))
	}
	return m
}

func wantName(s string) bool {
	for i := range len(s) {
		if s[i] == '/' || s[i] == 0 {
			return false
		}
	}
	return len(s) >= 1 && len(s) <= maxName && s != "." && s != ".."
}

func (m *model) do(c cmd.Cmd) api.Errno {
	switch c.Kind {
	case mkFile, mkDir, mkSym:
		return m.create(c)
	case enter, leave:
		return m.entry(c)
	case size, write, clone:
		return m.bytes(c)
	case chmod, drop:
		x, there := m.nodes[c.Ino]
		if !there {
			return api.ErrNone
		}
		if c.Kind == chmod && (c.N < 0 || c.N > maxMode) {
			return api.ErrRange
		}
		if c.Kind == drop && c.Ino == 1 {
			return api.ErrState
		}
		delete(m.nodes, c.Ino)
		if c.Kind == chmod {
			x.mode = c.N
			m.nodes[c.Ino] = x
		}
		return api.OK
	}
	return api.ErrKind
}

func (m *model) create(c cmd.Cmd) api.Errno {
	if c.Ino < 2 || c.Ino > maxNumber {
		return api.ErrRange
	}
	x := inode{kind: c.Kind, mode: c.N}
	if c.Kind == mkSym {
		x.mode, x.bytes = 511, c.Data
		if len(c.Data) < 1 || len(c.Data) > maxTarget {
			return api.ErrRange
		}
	} else if c.N < 0 || c.N > maxMode {
		return api.ErrRange
	}
	if _, there := m.nodes[c.Ino]; there {
		return api.ErrExists
	}
	if len(m.nodes) >= maxNodes {
		return api.ErrNoSpace
	}
	m.nodes[c.Ino] = x
	return api.OK
}

func (m *model) entry(c cmd.Cmd) api.Errno {
	if c.Kind == enter && (c.Ino < 1 || c.Ino > maxNumber) {
		return api.ErrRange
	}
	dir, there := m.nodes[c.Src]
	if !there {
		return api.ErrNone
	}
	if dir.kind != api.Dir {
		return api.ErrNotDir
	}
	_, has := dir.entries[c.Name]
	entries := map[string]int{}
	maps.Copy(entries, dir.entries)
	if c.Kind == leave {
		if !has {
			return api.ErrNone
		}
		delete(entries, c.Name)
	} else {
		if !wantName(c.Name) {
			return api.ErrName
		}
		if has {
			return api.ErrExists
		}
		if len(entries) >= maxEntries {
			return api.ErrLong
		}
		entries[c.Name] = c.Ino
	}
	dir.entries = entries
	m.nodes[c.Src] = dir
	return api.OK
}

func fileErr(nodes map[int]inode, ino int) api.Errno {
	x, there := nodes[ino]
	switch {
	case !there:
		return api.ErrNone
	case x.kind == api.Dir:
		return api.ErrIsDir
	case x.kind == api.Sym:
		return api.ErrKind
	}
	return api.OK
}

// bytes goes byte by byte.
func (m *model) bytes(c cmd.Cmd) api.Errno {
	if err := fileErr(m.nodes, c.Ino); err != api.OK {
		return err
	}
	x := m.nodes[c.Ino]
	if c.Kind == size {
		if c.N < 0 {
			return api.ErrRange
		}
		if c.N > maxSize {
			return api.ErrLong
		}
		x.bytes = (x.bytes + strings.Repeat("\x00", maxSize))[:c.N]
		m.nodes[c.Ino] = x
		return api.OK
	}
	data := c.Data
	if c.Kind == clone {
		if err := fileErr(m.parent, c.Src); err != api.OK {
			return err
		}
		source := m.parent[c.Src].bytes
		if c.From < 0 || c.N < 0 || c.From > len(source) || c.N > len(source)-c.From {
			return api.ErrRange
		}
		data = source[c.From : c.From+c.N]
	}
	if c.Off < 0 {
		return api.ErrRange
	}
	if c.Off > maxSize-len(data) {
		return api.ErrLong
	}
	b := []byte(x.bytes)
	for i := range len(data) {
		for len(b) <= c.Off+i {
			b = append(b, 0)
		}
		b[c.Off+i] = data[i]
	}
	x.bytes = string(b)
	m.nodes[c.Ino] = x
	return api.OK
}

// pair is a stage and its model, and what the parent was.
type pair struct {
	s      *cmd.Stage
	m      *model
	parent *fs.FS
	was    string
}

func newPair(t *testing.T, parent *fs.FS) pair {
	t.Helper()
	p := pair{cmd.New(parent), &model{inodesOf(t, parent.Map()), inodesOf(t, parent.Map())}, parent, told(parent)}
	p.check(t)
	return p
}

// resumed: a stage of the same parent that has come to that map, and its model.
func (p pair) resumed(t *testing.T, m *treap.Map) pair {
	t.Helper()
	q := pair{cmd.Resume(p.parent, m), &model{inodesOf(t, m), p.m.parent}, p.parent, p.was}
	q.check(t)
	return q
}

// do does it to both; the stage's answer.
func (p pair) do(t *testing.T, c cmd.Cmd) api.Errno {
	t.Helper()
	got, want := p.s.Do(c), p.m.do(c)
	if got != want {
		t.Fatalf("Do(%.200q) = %d, want %d", fmt.Sprint(c), got, want)
	}
	return got
}

// must: each is answered so, and all is as the model has it behind each.
func (p pair) must(t *testing.T, want api.Errno, l ...cmd.Cmd) {
	t.Helper()
	for _, c := range l {
		if got := p.do(t, c); got != want {
			t.Errorf("Do(%.200q) = %d, want %d", fmt.Sprint(c), got, want)
		}
		p.check(t)
	}
}

// check holds all that there is against the model.
func (p pair) check(t *testing.T) {
	t.Helper()
	m := p.s.Map()
	if m.Len() != len(p.m.nodes) {
		t.Fatalf("%d nodes, want %d", m.Len(), len(p.m.nodes))
	}
	for ino, x := range p.m.nodes {
		if text, ok := m.Get(keyOf(ino)); text != textOf(x) || !ok {
			t.Fatalf("%d: %.200q, %v, want %.200q", ino, text, ok, textOf(x))
		}
	}
	if got := told(p.parent); got != p.was {
		t.Fatalf("the parent is %s, was %s", got, p.was)
	}
}

// told is all of a file system, in words.
func told(f *fs.FS) string {
	if f == nil {
		return "nothing"
	}
	var b strings.Builder
	fmt.Fprintf(&b, "next %d\n", f.Next())
	for _, ino := range f.Inos() {
		x, ok := f.Node(ino)
		fmt.Fprintf(&b, "%d %v %d %d %q %q %v\n", ino, ok, x.Kind, x.Mode, x.Data, x.Target, x.Entries)
	}
	return b.String()
}

// operate: operations that can be done.
func operate(t *testing.T, f *fs.FS, l ...fs.Op) {
	t.Helper()
	for _, o := range l {
		if err := f.Do(o); err != api.OK {
			t.Fatalf("Do(%v) = %d", o, err)
		}
	}
}

// Numbers of the nodes of some.
const (
	top    = 1
	folder = 2 // /d
	long   = 3 // /d/f, 40 bytes
	link   = 4 // /s
	empty  = 5 // /e, a file
	next   = 6
)

// some: a file system with some of each.
func some(t *testing.T) *fs.FS {
	t.Helper()
	f := fs.New()
	operate(t, f, fs.Op{Kind: 2, A: "/d", N: 448}, fs.Op{Kind: 1, A: "/d/f", N: 420}, fs.Op{Kind: 3, A: "/s", Data: "/d/f"},
		fs.Op{Kind: 1, A: "/e", N: 1}, fs.Op{Kind: 8, A: "/d/f", Data: mixed(40)})
	return f
}

// mixed is a text without a short period.
func mixed(n int) string {
	b := make([]byte, n)
	for i := range b {
		b[i] = byte(i*i + 31*i + i>>8 + 1)
	}
	return string(b)
}
