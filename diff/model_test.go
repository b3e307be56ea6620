package diff_test

import (
	"encoding/binary"
	"fmt"
	"maps"
	"math/rand"
	"slices"
	"strings"
	"testing"

	"snapferry/api"
	"snapferry/cmd"
	"snapferry/diff"
	"snapferry/fs"
	"snapferry/treap"
)

const (
	chunkSize  = 16
	maxNodes   = 256
	maxEntries = 64
	maxDepth   = 8
	maxSize    = 4096
	maxNumber  = 1<<31 - 1
)

// inode is a node of the plain model.
type inode struct {
	kind, mode int
	bytes      string // a file's, or a symbolic link's target
	entries    map[string]int
}

// nodes: a file system's, by their numbers.
type nodes map[int]inode

func (l nodes) inos() []int { return slices.Sorted(maps.Keys(l)) }

// nodesOf: what a file system's map says, read by hand.
func nodesOf(t *testing.T, f *fs.FS) nodes {
	t.Helper()
	l, m := nodes{}, f.Map()
	for _, key := range m.Keys() {
		text, _ := m.Get(key)
		if len(key) != 4 || len(text) < 3 {
			t.Fatalf("%x: %x", key, text)
		}
		x := inode{kind: int(text[0]), mode: int(text[1])<<8 | int(text[2])}
		rest := text[3:]
		if x.kind == api.Dir {
			x.entries = map[string]int{}
			for rest != "" {
				end := 1 + int(rest[0])
				x.entries[rest[1:end]] = int(binary.BigEndian.Uint32([]byte(rest[end:])))
				rest = rest[end+4:]
			}
		}
		x.bytes = rest
		l[int(binary.BigEndian.Uint32([]byte(key)))] = x
	}
	return l
}

// keyOf: a number as 4 bytes, the highest first.
func keyOf(ino int) string { return string(binary.BigEndian.AppendUint32(nil, uint32(ino))) }

// made: the file system of such nodes.
func made(t *testing.T, l nodes, next int) *fs.FS {
	t.Helper()
	var m *treap.Map
	for _, ino := range l.inos() {
		x := l[ino]
		text := string([]byte{byte(x.kind), byte(x.mode >> 8), byte(x.mode)}) + x.bytes
		for _, name := range slices.Sorted(maps.Keys(x.entries)) {
			text += string([]byte{byte(len(name))}) + name + keyOf(x.entries[name])
		}
		m = m.Put(keyOf(ino), text)
	}
	f, err := fs.Of(m, next)
	if err != api.OK {
		t.Fatalf("Of = %d: %v", err, l)
	}
	return f
}

// place: of a chunk.
type place struct{ ino, at int }

// pieces: a text cut each 16 bytes.
func pieces(s string) []string {
	var l []string
	for len(s) > chunkSize {
		l = append(l, s[:chunkSize])
		s = s[chunkSize:]
	}
	if s != "" {
		l = append(l, s)
	}
	return l
}

// places: where each chunk of a file is first. The last file's last one is told ahead, and others that are the same overrule it.
func (l nodes) places() map[string]place {
	first := map[string]place{}
	inos := l.inos()
	slices.Reverse(inos)
	for _, ino := range inos {
		if l[ino].kind != api.File {
			continue
		}
		chunks := pieces(l[ino].bytes)
		for i := len(chunks) - 1; i >= 0; i-- {
			first[chunks[i]] = place{ino, i * chunkSize}
		}
	}
	return first
}

// isNew: of the node of c of that number.
func isNew(p, c nodes, ino int) bool {
	was, there := p[ino]
	return !there || was.kind != c[ino].kind || was.kind == api.Sym && was.bytes != c[ino].bytes
}

// wantPlan goes by the words, step by step. Entries rise by names, and none is there twice: those stay that both directories have.
func wantPlan(p, c nodes) []cmd.Cmd {
	l := wantNodes(p, c)
	l = append(l, wantEntries(p, c)...)
	for _, ino := range c.inos() {
		if !isNew(p, c, ino) && p[ino].mode != c[ino].mode {
			l = append(l, cmd.Cmd{Kind: 6, Ino: ino, N: c[ino].mode})
		}
	}
	places := p.places()
	for _, ino := range c.inos() {
		if c[ino].kind == api.File {
			l = append(l, wantBytes(p, c, ino, places)...)
		}
	}
	return l
}

func wantNodes(p, c nodes) []cmd.Cmd {
	var l []cmd.Cmd
	for _, ino := range p.inos() {
		if _, there := c[ino]; !there {
			l = append(l, cmd.Cmd{Kind: 10, Ino: ino})
		}
	}
	for _, ino := range c.inos() {
		if !isNew(p, c, ino) {
			continue
		}
		if _, there := p[ino]; there {
			l = append(l, cmd.Cmd{Kind: 10, Ino: ino})
		}
		switch x := c[ino]; x.kind {
		case api.File:
			l = append(l, cmd.Cmd{Kind: 1, Ino: ino, N: x.mode})
		case api.Dir:
			l = append(l, cmd.Cmd{Kind: 2, Ino: ino, N: x.mode})
		case api.Sym:
			l = append(l, cmd.Cmd{Kind: 3, Ino: ino, Data: x.bytes})
			if x.mode != 511 {
				l = append(l, cmd.Cmd{Kind: 6, Ino: ino, N: x.mode})
			}
		}
	}
	return l
}

func wantEntries(p, c nodes) []cmd.Cmd {
	var goes, comes []cmd.Cmd
	for _, ino := range c.inos() {
		var before map[string]int
		if !isNew(p, c, ino) {
			before = p[ino].entries
		}
		behind := c[ino].entries
		for _, name := range slices.Sorted(maps.Keys(before)) {
			if behind[name] != before[name] {
				goes = append(goes, cmd.Cmd{Kind: 5, Src: ino, Name: name})
			}
		}
		for _, name := range slices.Sorted(maps.Keys(behind)) {
			if behind[name] != before[name] {
				comes = append(comes, cmd.Cmd{Kind: 4, Ino: behind[name], Src: ino, Name: name})
			}
		}
	}
	return append(goes, comes...)
}

func wantBytes(p, c nodes, ino int, places map[string]place) []cmd.Cmd {
	var l []cmd.Cmd
	var s string
	if !isNew(p, c, ino) {
		s = p[ino].bytes
	}
	size := len(c[ino].bytes)
	if len(s) != size {
		l = append(l, cmd.Cmd{Kind: 7, Ino: ino, N: size})
		s = (s + strings.Repeat("\x00", maxSize))[:size]
	}
	for i, text := range pieces(c[ino].bytes) {
		off := i * chunkSize
		if s[off:off+len(text)] == text {
			continue
		}
		if from, there := places[text]; there {
			l = append(l, cmd.Cmd{Kind: 9, Ino: ino, Src: from.ino, Off: off, From: from.at, N: len(text)})
		} else {
			l = append(l, cmd.Cmd{Kind: 8, Ino: ino, Off: off, Data: text})
		}
	}
	return l
}

// told is all of a file system, in words.
func told(f *fs.FS) string {
	var b strings.Builder
	fmt.Fprintf(&b, "next %d\n", f.Next())
	for _, ino := range f.Inos() {
		x, ok := f.Node(ino)
		fmt.Fprintf(&b, "%d %v %d %d %q %q %v\n", ino, ok, x.Kind, x.Mode, x.Data, x.Target, x.Entries)
	}
	return b.String()
}

// operated: a copy on which operations are done that can be done.
func operated(t *testing.T, f *fs.FS, l ...fs.Op) *fs.FS {
	t.Helper()
	g := f.Copy()
	for _, o := range l {
		if err := g.Do(o); err != api.OK {
			t.Fatalf("Do(%.200q) = %d", fmt.Sprint(o), err)
		}
	}
	return g
}

// check: the plan is as the words have it, its commands can be written, and it makes c of p.
func check(t *testing.T, p, c *fs.FS) []cmd.Cmd {
	t.Helper()
	wasP, wasC := told(p), told(c)
	before, behind := nodesOf(t, p), nodesOf(t, c)
	plan := diff.Plan(p, c)
	if want := wantPlan(before, behind); !slices.Equal(plan, want) {
		t.Fatalf("Plan = %+v\nwant %+v\np %s\nc %s", plan, want, wasP, wasC)
	}
	checkDone(t, p, c, plan)
	if told(p) != wasP || told(c) != wasC {
		t.Fatalf("p %s\nwas %s\nc %s\nwas %s", told(p), wasP, told(c), wasC)
	}
	places := before.places()
	for _, x := range plan {
		if _, there := places[x.Data]; x.Kind == 8 && there {
			t.Fatalf("p has the chunk of %+v", x)
		}
	}
	return plan
}

func checkDone(t *testing.T, p, c *fs.FS, plan []cmd.Cmd) {
	t.Helper()
	s := cmd.New(p)
	for i, x := range plan {
		if !cmd.Right(x) {
			t.Fatalf("%d: %+v can't be written", i, x)
		}
		if err := s.Do(x); err != api.OK {
			t.Fatalf("%d: Do(%+v) = %d", i, x, err)
		}
	}
	f, err := s.End(c.Next())
	if err != api.OK {
		t.Fatalf("End(%d) = %d", c.Next(), err)
	}
	if told(f) != told(c) || f.Map().Name() != c.Map().Name() {
		t.Fatalf("it makes %s\nwant %s", told(f), told(c))
	}
}

// maker makes file systems by lot, of few numbers, names and chunks, so that any two have much in common.
type maker struct {
	r        *rand.Rand
	numbers  []int
	names    []string
	chunks   []string
	kinds    map[int]int // what a number mostly is
	sameKind int         // how often it is, of 10
}

func newMaker(r *rand.Rand, size, names int) *maker {
	m := &maker{r: r, kinds: map[int]int{}, sameKind: r.Intn(11)}
	for len(m.numbers) < size {
		n := 2 + r.Intn(size+3)
		if r.Intn(4) == 0 {
			n = maxNumber - 1 - r.Intn(size)
		}
		if r.Intn(8) == 0 {
			n = 1<<uint(1+r.Intn(30)) + r.Intn(2)
		}
		if !slices.Contains(m.numbers, n) && n >= 2 {
			m.numbers = append(m.numbers, n)
			m.kinds[n] = 1 + r.Intn(3)
		}
	}
	for i := range names {
		m.names = append(m.names, string(rune('a'+i%26))+strings.Repeat("\xff", i/26))
	}
	m.chunks = []string{strings.Repeat("\x00", chunkSize)}
	for range 6 {
		m.chunks = append(m.chunks, strings.Repeat(string([]byte{byte(r.Intn(4))}), r.Intn(4))+strings.Repeat(string([]byte{byte(r.Intn(4))}), chunkSize))
	}
	return m
}

func (m *maker) bytes() string {
	var s string
	for range m.r.Intn(6) {
		s += m.chunks[m.r.Intn(len(m.chunks))][:chunkSize]
	}
	if m.r.Intn(2) == 0 {
		tail := m.chunks[m.r.Intn(len(m.chunks))]
		s += tail[:m.r.Intn(chunkSize)]
	}
	return s
}

func (m *maker) node(ino int) inode {
	kind := m.kinds[ino]
	if m.r.Intn(10) >= m.sameKind {
		kind = 1 + m.r.Intn(3)
	}
	x := inode{kind: kind, mode: []int{0, 1, 493, 511}[m.r.Intn(4)]}
	switch kind {
	case api.File:
		x.bytes = m.bytes()
	case api.Dir:
		x.entries = map[string]int{}
	case api.Sym:
		x.bytes = string(rune('t' + m.r.Intn(2)))
	}
	return x
}

// put: an entry for a node, in any directory that may have it; false, if there was no room at that throw.
func (m *maker) put(l nodes, depth map[int]int, ino int, x inode) bool {
	var dirs []int
	for _, d := range slices.Sorted(maps.Keys(depth)) {
		if depth[d] < maxDepth && len(l[d].entries) < maxEntries {
			dirs = append(dirs, d)
		}
	}
	dir := dirs[m.r.Intn(len(dirs))]
	name := m.names[m.r.Intn(len(m.names))]
	if l[dir].entries[name] != 0 {
		return false
	}
	l[dir].entries[name] = ino
	l[ino] = x
	if x.kind == api.Dir {
		depth[ino] = depth[dir] + 1
	}
	return true
}

// fs: of some of the numbers.
func (m *maker) fs(t *testing.T) *fs.FS {
	t.Helper()
	l := nodes{1: {kind: api.Dir, mode: []int{493, 7}[m.r.Intn(2)], entries: map[string]int{}}}
	depth := map[int]int{1: 0}
	often := m.r.Intn(11)
	last := 1
	for _, i := range m.r.Perm(len(m.numbers)) {
		ino := m.numbers[i]
		if m.r.Intn(10) > often || len(l) >= maxNodes {
			continue
		}
		x := m.node(ino)
		if m.put(l, depth, ino, x) {
			last = max(last, ino)
			for x.kind != api.Dir && m.r.Intn(3) == 0 {
				m.put(l, depth, ino, x)
			}
		}
	}
	next := last + 1
	if m.r.Intn(2) == 0 {
		next += m.r.Intn(min(9, maxNumber-last))
	}
	return made(t, l, next)
}
