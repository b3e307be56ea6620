package fs_test

import (
	"encoding/binary"
	"maps"
	"reflect"
	"slices"
	"strings"
	"testing"

	"snapferry/api"
	"snapferry/fs"
	"snapferry/treap"
)

const (
	maxNodes   = 256
	maxEntries = 64
	maxDepth   = 8
	maxName    = 16
	maxSize    = 4096
	maxTarget  = 64
	maxMode    = 511
	maxIno     = 1<<31 - 1
)

// The Kinds of operations.
const (
	mkFile = 1
	mkDir  = 2
	mkSym  = 3
	link   = 4
	unlink = 5
	rmdir  = 6
	rename = 7
	write  = 8
	trunc  = 9
	clone  = 10
	chmod  = 11
)

// inode is a node of the model: entries lead to nodes themselves, not to numbers.
type inode struct {
	ino, kind, mode int
	data, target    string
	names           map[string]*inode
}

// model is a file system as plain as can be.
type model struct {
	top  *inode
	next int
}

func newModel() *model {
	return &model{&inode{ino: 1, kind: api.Dir, mode: 493, names: map[string]*inode{}}, 2}
}

// copied: whose nodes are others, linked likewise.
func (m *model) copied() *model {
	made := map[*inode]*inode{}
	var other func(x *inode) *inode
	other = func(x *inode) *inode {
		if made[x] == nil {
			y := *x
			made[x] = &y
			y.names = map[string]*inode{}
			for name, child := range x.names {
				y.names[name] = other(child)
			}
		}
		return made[x]
	}
	return &model{other(m.top), m.next}
}

// all: the nodes that can be come to, by their numbers.
func (m *model) all() map[int]*inode {
	found := map[int]*inode{}
	var walk func(x *inode)
	walk = func(x *inode) {
		found[x.ino] = x
		for _, child := range x.names {
			walk(child)
		}
	}
	walk(m.top)
	return found
}

// depth: how many names the longest path on from x has.
func (x *inode) depth() int {
	most := 0
	for _, child := range x.names {
		most = max(most, 1+child.depth())
	}
	return most
}

// has: can x be come to from here?
func (x *inode) has(other *inode) bool {
	if x == other {
		return true
	}
	for _, child := range x.names {
		if child.has(other) {
			return true
		}
	}
	return false
}

// wantNames: a path's; false, if it is none.
func wantNames(path string) ([]string, bool) {
	if path == "/" {
		return nil, true
	}
	parts := strings.Split(path, "/")
	if parts[0] != "" || len(parts) < 2 || len(parts) > maxDepth+1 {
		return nil, false
	}
	for _, s := range parts[1:] {
		if s == "" || len(s) > maxName || s == "." || s == ".." || strings.Contains(s, "\x00") {
			return nil, false
		}
	}
	return parts[1:], true
}

func (m *model) walk(names []string) (*inode, api.Errno) {
	x := m.top
	for _, name := range names {
		if x.kind != api.Dir {
			return nil, api.ErrNotDir
		}
		if x.names[name] == nil {
			return nil, api.ErrNone
		}
		x = x.names[name]
	}
	return x, api.OK
}

// spot: a path's parent, and its last name.
func (m *model) spot(names []string) (*inode, string, api.Errno) {
	if len(names) == 0 {
		return nil, "", api.ErrExists
	}
	last := len(names) - 1
	dir, err := m.walk(names[:last])
	if err != api.OK {
		return nil, "", err
	}
	if dir.kind != api.Dir {
		return nil, "", api.ErrNotDir
	}
	return dir, names[last], api.OK
}

func fileErr(x *inode) api.Errno {
	switch x.kind {
	case api.Dir:
		return api.ErrIsDir
	case api.Sym:
		return api.ErrKind
	}
	return api.OK
}

func (m *model) do(o fs.Op) api.Errno {
	if o.Kind < 1 || o.Kind > 11 {
		return api.ErrKind
	}
	a, isPath := wantNames(o.A)
	if !isPath {
		return api.ErrName
	}
	var b []string
	if o.Kind == link || o.Kind == rename || o.Kind == clone {
		if b, isPath = wantNames(o.B); !isPath {
			return api.ErrName
		}
	}
	if o.Kind <= mkSym {
		return m.create(o, a)
	}
	x, err := m.walk(a)
	if err != api.OK {
		return err
	}
	switch o.Kind {
	case link:
		return m.link(x, b)
	case unlink:
		if x.kind == api.Dir {
			return api.ErrIsDir
		}
		m.remove(a)
	case rmdir:
		return m.rmdir(x, a)
	case rename:
		return m.rename(x, a, b)
	case chmod:
		if o.N < 0 || o.N > maxMode {
			return api.ErrRange
		}
		x.mode = o.N
	default:
		return m.change(o, x, b)
	}
	return api.OK
}

func (m *model) remove(names []string) {
	dir, last, _ := m.spot(names)
	delete(dir.names, last)
}

func (m *model) create(o fs.Op, names []string) api.Errno {
	dir, last, err := m.spot(names)
	switch {
	case err != api.OK:
		return err
	case dir.names[last] != nil:
		return api.ErrExists
	case o.Kind != mkSym && (o.N < 0 || o.N > maxMode):
		return api.ErrRange
	case o.Kind == mkSym && (len(o.Data) < 1 || len(o.Data) > maxTarget):
		return api.ErrRange
	case len(dir.names) == maxEntries:
		return api.ErrLong
	case len(m.all()) == maxNodes || m.next > maxIno:
		return api.ErrNoSpace
	}
	x := &inode{ino: m.next, kind: o.Kind, mode: o.N}
	switch o.Kind {
	case mkDir:
		x.names = map[string]*inode{}
	case mkSym:
		x.mode, x.target = maxMode, o.Data
	}
	dir.names[last] = x
	m.next++
	return api.OK
}

func (m *model) link(x *inode, b []string) api.Errno {
	if x.kind == api.Dir {
		return api.ErrIsDir
	}
	dir, last, err := m.spot(b)
	switch {
	case err != api.OK:
		return err
	case dir.names[last] != nil:
		return api.ErrExists
	case len(dir.names) == maxEntries:
		return api.ErrLong
	}
	dir.names[last] = x
	return api.OK
}

func (m *model) rmdir(x *inode, a []string) api.Errno {
	switch {
	case x.kind != api.Dir:
		return api.ErrNotDir
	case len(a) == 0:
		return api.ErrState
	case len(x.names) > 0:
		return api.ErrNotEmpty
	}
	m.remove(a)
	return api.OK
}

func (m *model) rename(x *inode, a, b []string) api.Errno {
	if len(a) == 0 {
		return api.ErrState
	}
	if x.kind == api.Dir && len(b) >= len(a) && slices.Equal(b[:len(a)], a) {
		return api.ErrLoop
	}
	dir, last, err := m.spot(b)
	if err != api.OK {
		return err
	}
	own, _, _ := m.spot(a)
	switch {
	case dir.names[last] != nil:
		return api.ErrExists
	case dir != own && len(dir.names) == maxEntries:
		return api.ErrLong
	case len(b)+x.depth() > maxDepth:
		return api.ErrLong
	}
	m.remove(a)
	dir.names[last] = x
	return api.OK
}

func (m *model) change(o fs.Op, x *inode, b []string) api.Errno {
	if err := fileErr(x); err != api.OK {
		return err
	}
	data := o.Data
	switch o.Kind {
	case trunc:
		if o.N < 0 {
			return api.ErrRange
		}
		if o.N > maxSize {
			return api.ErrLong
		}
		x.data = (x.data + strings.Repeat("\x00", maxSize))[:o.N]
		return api.OK
	case clone:
		y, err := m.walk(b)
		if err != api.OK {
			return err
		}
		if err := fileErr(y); err != api.OK {
			return err
		}
		if o.From < 0 || o.N < 0 || o.From > len(y.data) || o.N > len(y.data)-o.From {
			return api.ErrRange
		}
		data = y.data[o.From:][:o.N]
	}
	if o.Off < 0 {
		return api.ErrRange
	}
	if o.Off > maxSize || o.Off+len(data) > maxSize {
		return api.ErrLong
	}
	for i := range len(data) {
		b := []byte(x.data)
		for len(b) <= o.Off+i {
			b = append(b, 0)
		}
		b[o.Off+i] = data[i]
		x.data = string(b)
	}
	return api.OK
}

// read is what Read should answer.
func (m *model) read(path string, off, n int) (string, api.Errno) {
	names, isPath := wantNames(path)
	if !isPath {
		return "", api.ErrName
	}
	x, err := m.walk(names)
	if err == api.OK {
		err = fileErr(x)
	}
	if err != api.OK {
		return "", err
	}
	if off < 0 || n < 0 {
		return "", api.ErrRange
	}
	s := x.data[min(off, len(x.data)):]
	return s[:min(n, len(s))], api.OK
}

func (x *inode) node() api.Node {
	y := api.Node{Kind: x.kind, Mode: x.mode, Data: x.data, Target: x.target}
	for _, name := range slices.Sorted(maps.Keys(x.names)) {
		y.Entries = append(y.Entries, api.Entry{Name: name, Ino: x.names[name].ino})
	}
	return y
}

func wantKey(ino int) string {
	return string(binary.BigEndian.AppendUint32(nil, uint32(ino)))
}

// textOf: a node's, right or not.
func textOf(x api.Node) string {
	b := binary.BigEndian.AppendUint16([]byte{byte(x.Kind)}, uint16(x.Mode))
	b = append(b, x.Data+x.Target...)
	for _, e := range x.Entries {
		b = append(b, byte(len(e.Name)))
		b = append(b, e.Name...)
		b = binary.BigEndian.AppendUint32(b, uint32(e.Ino))
	}
	return string(b)
}

// mapOf: of nodes' texts, under their numbers.
func mapOf(nodes map[int]api.Node) *treap.Map {
	var m *treap.Map
	for ino, x := range nodes {
		m = m.Put(wantKey(ino), textOf(x))
	}
	return m
}

func (m *model) nodes() map[int]api.Node {
	nodes := map[int]api.Node{}
	for ino, x := range m.all() {
		nodes[ino] = x.node()
	}
	return nodes
}

// paths: of all that can be come to.
func (m *model) paths() []string {
	var l []string
	var walk func(path string, x *inode)
	walk = func(path string, x *inode) {
		l = append(l, path)
		for name, child := range x.names {
			walk(strings.TrimSuffix(path, "/")+"/"+name, child)
		}
	}
	walk("/", m.top)
	slices.Sort(l)
	return l
}

// equal takes a list without elements for one that is nil.
func equal(a, b api.Node) bool {
	if len(a.Entries) == 0 && len(b.Entries) == 0 {
		a.Entries, b.Entries = nil, nil
	}
	return reflect.DeepEqual(a, b)
}

// check: is f what the model is, whichever way it is asked?
func check(t *testing.T, f *fs.FS, m *model) {
	t.Helper()
	nodes := m.nodes()
	if !slices.Equal(f.Inos(), slices.Sorted(maps.Keys(nodes))) || f.Next() != m.next {
		t.Fatalf("Inos() = %v, Next() = %d, want %v, %d", f.Inos(), f.Next(), slices.Sorted(maps.Keys(nodes)), m.next)
	}
	for ino, want := range nodes {
		if got, ok := f.Node(ino); !equal(got, want) || !ok {
			t.Fatalf("Node(%d) = %.200v, %v, want %.200v", ino, got, ok, want)
		}
	}
	checkNoNode(t, f, nodes, -1, 0, m.next, m.next-1, maxIno, maxIno+1)
	if f.Map().Name() != mapOf(nodes).Name() {
		t.Fatalf("Map() is another one")
	}
	if !fs.Sound(f.Map()) {
		t.Fatal("Map() isn't sound")
	}
}

func checkNoNode(t *testing.T, f *fs.FS, nodes map[int]api.Node, inos ...int) {
	t.Helper()
	for _, ino := range inos {
		if _, there := nodes[ino]; there {
			continue
		}
		if x, ok := f.Node(ino); ok || !equal(x, api.Node{}) {
			t.Fatalf("Node(%d) = %.200v, %v, want none", ino, x, ok)
		}
	}
}

// checkFind: the node that a path ends at.
func checkFind(t *testing.T, f *fs.FS, m *model, path string) {
	t.Helper()
	wantIno, want := 0, api.Node{}
	wantErr := api.ErrName
	if names, isPath := wantNames(path); isPath {
		var x *inode
		if x, wantErr = m.walk(names); wantErr == api.OK {
			wantIno, want = x.ino, x.node()
		}
	}
	if ino, x, err := f.Find(path); ino != wantIno || !equal(x, want) || err != wantErr {
		t.Fatalf("Find(%q) = %d, %.200v, %d, want %d, %.200v, %d", path, ino, x, err, wantIno, want, wantErr)
	}
}

func checkRead(t *testing.T, f *fs.FS, m *model, path string, off, n int) {
	t.Helper()
	want, wantErr := m.read(path, off, n)
	if s, err := f.Read(path, off, n); s != want || err != wantErr {
		t.Fatalf("Read(%q, %d, %d) = %.100q, %d, want %.100q, %d", path, off, n, s, err, want, wantErr)
	}
}

// checkDo: an operation on both; with an error nothing is changed.
func checkDo(t *testing.T, f *fs.FS, m *model, o fs.Op) api.Errno {
	t.Helper()
	was, next := f.Map().Name(), f.Next()
	want := m.do(o)
	got := f.Do(o)
	if got != want {
		t.Fatalf("Do(%s) = %d, want %d", short(o), got, want)
	}
	if got != api.OK && (f.Map().Name() != was || f.Next() != next) {
		t.Fatalf("Do(%s) = %d, but something was changed", short(o), got)
	}
	if f.Next() != m.next {
		t.Fatalf("Do(%s): Next() = %d, want %d", short(o), f.Next(), m.next)
	}
	return got
}
