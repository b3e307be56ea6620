package fs_test

import (
	"maps"
	"math"
	"math/rand"
	"slices"
	"strconv"
	"strings"
	"testing"

	"snapferry/api"
	"snapferry/fs"
	"snapferry/treap"
)

// wantRightName: is a text a name?
func wantRightName(s string) bool {
	return len(s) >= 1 && len(s) <= maxName && s != "." && s != ".." && !strings.ContainsAny(s, "/\x00")
}

func wantRight(x api.Node) bool {
	if x.Mode < 0 || x.Mode > maxMode || len(x.Entries) > maxEntries {
		return false
	}
	for i, e := range x.Entries {
		if !wantRightName(e.Name) || e.Ino < 1 || e.Ino > maxIno || i > 0 && x.Entries[i-1].Name >= e.Name {
			return false
		}
	}
	switch x.Kind {
	case api.File:
		return len(x.Data) <= maxSize && x.Target == "" && len(x.Entries) == 0
	case api.Dir:
		return x.Data == "" && x.Target == ""
	case api.Sym:
		return x.Data == "" && len(x.Target) >= 1 && len(x.Target) <= maxTarget && len(x.Entries) == 0
	}
	return false
}

// wantSound is the words, one by one: depths are found by sets of what is come to by just so many names.
func wantSound(nodes map[int]api.Node) bool {
	if nodes[1].Kind != api.Dir || len(nodes) > maxNodes {
		return false
	}
	times := map[int]int{}
	for ino, x := range nodes {
		if ino < 1 || ino > maxIno || !wantRight(x) {
			return false
		}
		for _, e := range x.Entries {
			times[e.Ino]++
		}
	}
	for ino := range times {
		if _, there := nodes[ino]; !there {
			return false
		}
	}
	for ino, x := range nodes {
		n := times[ino]
		if ino == 1 && n != 0 || ino != 1 && n == 0 || ino != 1 && x.Kind == api.Dir && n != 1 {
			return false
		}
	}
	found, level := map[int]bool{}, map[int]bool{1: true}
	for depth := 0; len(level) > 0; depth++ {
		if depth > maxDepth {
			return false
		}
		below := map[int]bool{}
		for ino := range level {
			found[ino] = true
			for _, e := range nodes[ino].Entries {
				below[e.Ino] = true
			}
		}
		level = below
	}
	return len(found) == len(nodes)
}

// checkSound: is it, and what does Of make of it?
func checkSound(t *testing.T, m *treap.Map, want bool) {
	t.Helper()
	if fs.Sound(m) != want {
		t.Errorf("Sound(%d keys) = %v", m.Len(), !want)
	}
	f, err := fs.Of(m, maxIno)
	if !want && (f != nil || err != api.ErrForm) {
		t.Errorf("Of = %v, %d", f, err)
	}
	if want && (err != api.OK || f.Map().Name() != m.Name() || f.Next() != maxIno) {
		t.Errorf("Of = %d", err)
	}
}

func checkNodes(t *testing.T, nodes map[int]api.Node, want bool) {
	t.Helper()
	if wantSound(nodes) != want {
		t.Errorf("the model finds %.300v sound: %v", nodes, !want)
	}
	checkSound(t, mapOf(nodes), want)
}

func dir(l ...any) api.Node {
	x := api.Node{Kind: api.Dir, Mode: 7}
	for i := 0; i < len(l); i += 2 {
		x.Entries = append(x.Entries, api.Entry{Name: l[i].(string), Ino: l[i+1].(int)})
	}
	return x
}

var (
	plain = api.Node{Kind: api.File, Data: "d"}
	sym   = api.Node{Kind: api.Sym, Mode: 511, Target: "t"}
)

// P11.2
func TestSoundMaps(t *testing.T) {
	for i, nodes := range []map[int]api.Node{
		{1: dir()},
		{1: dir("a", 2), 2: plain},
		{1: dir("a", 2), 2: sym},
		{1: dir("a", 2), 2: dir()},
		{1: dir("a", 2, "b", 2, "c", 2), 2: plain},
		{1: dir("a", 2, "b", 3), 2: sym, 3: dir("c", 2)},
		{1: dir("a", 3), 2: plain, 3: dir("a", 2, "b", 2)},
		{1: dir("a", maxIno-1, "b", 256), 256: dir("x", 65536), 65536: plain, maxIno - 1: sym},
	} {
		t.Logf("map %d", i)
		checkNodes(t, nodes, true)
	}
	big := map[int]api.Node{1: dir("a", maxIno), maxIno: plain}
	if !fs.Sound(mapOf(big)) {
		t.Error("the greatest number isn't sound")
	}
	for _, next := range []int{maxIno, maxIno + 1} { // none is greater
		if f, err := fs.Of(mapOf(big), next); f != nil || err != api.ErrForm {
			t.Errorf("Of(.., %d) = %d", next, err)
		}
	}
}

// P11.2
func TestUnsoundMaps(t *testing.T) {
	for i, nodes := range []map[int]api.Node{
		{},
		{2: dir()},
		{1: plain},
		{1: sym},
		{1: dir("a", 2)},
		{1: dir("a", 1)},
		{1: dir("a", 2), 2: dir("b", 1)},
		{1: dir(), 2: plain},
		{1: dir(), 2: dir()},
		{1: dir(), 2: dir("a", 2)},
		{1: dir(), 2: dir("a", 3), 3: dir("a", 2)},
		{1: dir("f", 4), 2: dir("a", 3), 3: dir("a", 2, "f", 4), 4: plain},
		{1: dir(), 2: dir("a", 3, "f", 4), 3: dir("a", 2), 4: plain},
		{1: dir("a", 2, "b", 2), 2: dir()},
		{1: dir("a", 2, "b", 3), 2: dir("c", 3), 3: dir()},
		{1: dir("a", 2), 2: dir("a", 2)},
		{1: dir("a", 2), 2: dir("b", 3), 3: dir("c", 2)},
		{1: dir("a", 2, "b", 3), 2: plain},
		{1: dir("a", 2), 2: api.Node{Kind: api.File, Mode: 512}},
		{1: dir("a", 2), 2: api.Node{Kind: api.File, Data: mixed(4097)}},
		{1: dir("a", 2), 2: api.Node{Kind: api.Sym}},
		{1: dir("a", 2), 2: api.Node{Kind: api.Sym, Target: mixed(65)}},
		{1: dir("a", 2), 2: api.Node{Kind: 4}},
		{1: dir("a", 2), 2: api.Node{Kind: 0}},
		{1: dir("b", 2, "a", 3), 2: plain, 3: plain},
		{1: dir("a", 2, "a", 3), 2: plain, 3: plain},
		{1: dir("..", 2), 2: plain},
		{1: dir("a/b", 2), 2: plain},
		{1: dir("", 2), 2: plain},
		{1: dir("a", 0), 0: plain},
		{1: dir("a", 2), 2: plain, 0: plain},
		{0: dir("a", 1), 1: dir()},
		{1: dir("a", 1<<31), 1 << 31: plain},
		{1: dir("a", 2), 2: plain, 1 << 31: plain},
		{1: dir("a", math.MaxUint32), math.MaxUint32: plain},
	} {
		t.Logf("map %d", i)
		checkNodes(t, nodes, false)
	}
}

// Keys and values that are none of a node. P11.2
func TestUnsoundTexts(t *testing.T) {
	var none *treap.Map
	checkSound(t, none, false)
	checkSound(t, new(treap.Map), false)
	_, m := some(t)
	sound := mapOf(m.nodes())
	checkSound(t, sound, true)
	for _, key := range []string{"", "x", "\x00", "\x00\x00\x01", "\x00\x00\x00\x00", "\x00\x00\x00\x00\x01", "\x00\x00\x00\x01\x00", "\x80\x00\x00\x00", "\x80\x00\x00\x01", "\xff\xff\xff\xff", "\x01\x00\x00\x00", strings.Repeat("\x00", 1000)} {
		for _, value := range []string{"", "\x01\x00\x00", "\x02\x00\x00"} {
			checkSound(t, sound.Put(key, value), false)
		}
	}
	for _, key := range sound.Keys() {
		text, _ := sound.Get(key)
		checkSound(t, sound.Del(key), false)
		for _, value := range []string{"", "\x00", "\x01", "\x01\x00", "\x00" + text[1:], "\x04" + text[1:], "\x01\x02\x00", "\x02\x00\x00\x00", text[:1] + "\x02" + text[2:]} {
			checkSound(t, sound.Put(key, value), false)
		}
		checkSound(t, sound.Put(key, text[:1]+"\x01\xff"+text[3:]), true) // another Mode
	}
	root, _ := sound.Get(wantKey(1))
	const entrySize = 6
	for n := range len(root) { // part of a text; the last two entries' nodes have other names, too
		whole := n == len(root)-entrySize || n == len(root)-2*entrySize
		checkSound(t, sound.Put(wantKey(1), root[:n]), whole)
	}
	checkSound(t, sound.Put(wantKey(1), root+"\x00"), false)
}

// P11.2
func TestSoundOfDepths(t *testing.T) {
	for _, last := range []api.Node{dir(), plain, sym} {
		for names := range 12 {
			nodes := map[int]api.Node{}
			for i := 1; i <= names; i++ {
				nodes[i] = dir("n", i+1)
			}
			nodes[names+1] = last
			if names == 0 {
				nodes[1] = dir()
			}
			checkNodes(t, nodes, names <= 8)
		}
	}
	for depth := 1; depth <= 9; depth++ { // a file that is named high up, too
		nodes := map[int]api.Node{1: dir("a", 2, "f", 50), 50: plain}
		for i := 2; i < depth; i++ {
			nodes[i] = dir("a", i+1)
		}
		nodes[depth] = dir("f", 50)
		if depth == 1 {
			nodes = map[int]api.Node{1: dir("f", 50), 50: plain}
		}
		checkNodes(t, nodes, depth <= 8)
	}
}

// A name ahead of others is as deep as one behind them. P11.2
func TestSoundOfLevels(t *testing.T) {
	for at := range 6 {
		for length := 5; length < 9; length++ {
			nodes := map[int]api.Node{1: dir()}
			for i := range 6 {
				root := nodes[1]
				root.Entries = append(root.Entries, api.Entry{Name: "n" + strconv.Itoa(i), Ino: 2 + i})
				nodes[1], nodes[2+i] = root, dir()
			}
			ino := 2 + at
			for i := range length {
				nodes[ino] = dir("x", 100+i)
				ino = 100 + i
			}
			nodes[ino] = plain
			checkNodes(t, nodes, 1+length <= 8)
		}
	}
}

// P11.2
func TestSoundOfMostNodes(t *testing.T) {
	for _, count := range []int{255, 256, 257, 300} {
		nodes := map[int]api.Node{1: dir()}
		for ino := 2; len(nodes) < count; ino++ {
			x := dir()
			for i := 0; i < 64 && len(nodes) < count-1; i++ {
				file := 1000*ino + i
				nodes[file] = plain
				x.Entries = append(x.Entries, api.Entry{Name: strconv.Itoa(100 + i), Ino: file})
			}
			nodes[ino] = x
			root := nodes[1]
			root.Entries = append(root.Entries, api.Entry{Name: strconv.Itoa(100 + ino), Ino: ino})
			nodes[1] = root
		}
		if len(nodes) != count {
			t.Fatal(len(nodes))
		}
		checkNodes(t, nodes, count <= 256)
	}
	for _, count := range []int{63, 64, 65} {
		x := dir()
		for i := range count {
			x.Entries = append(x.Entries, api.Entry{Name: strconv.Itoa(100 + i), Ino: 2})
		}
		checkNodes(t, map[int]api.Node{1: x, 2: plain}, count <= 64)
	}
}

// Rule 5: maps as great as may be, of directories that name one another over and over.
func TestSoundEnds(t *testing.T) {
	nodes := map[int]api.Node{}
	for ino := 1; ino <= 256; ino++ {
		x := dir()
		for i := range 64 {
			x.Entries = append(x.Entries, api.Entry{Name: strconv.Itoa(100 + i), Ino: 2 + (ino*7+i*i)%255})
		}
		nodes[ino] = x
	}
	checkNodes(t, nodes, false)
	for ino := 9; ino <= 256; ino++ { // directories seven deep, and files that each of them names 63 times
		nodes[ino] = plain
	}
	for ino := 1; ino <= 8; ino++ {
		x := dir()
		for i := range 63 {
			x.Entries = append(x.Entries, api.Entry{Name: strconv.Itoa(100 + i), Ino: 9 + (ino*63+i)%248})
		}
		if ino < 8 {
			x.Entries = append(x.Entries, api.Entry{Name: "x", Ino: ino + 1})
		}
		nodes[ino] = x
	}
	checkNodes(t, nodes, true)
	var many *treap.Map
	for i := range 3000 {
		many = many.Put(wantKey(i+1), strings.Repeat("\x02", 300))
	}
	checkSound(t, many, false)
}

// P11.2
func TestNextOfOf(t *testing.T) {
	f, m := some(t)
	top := slices.Max(f.Inos())
	for _, next := range []int{math.MinInt, -1, 0, 1, 2, top - 1, top, maxIno + 1, math.MaxUint32, 1<<32 + 100, math.MaxInt} {
		if g, err := fs.Of(f.Map(), next); g != nil || err != api.ErrForm {
			t.Errorf("Of(.., %d) = %v, %d", next, g, err)
		}
	}
	for _, next := range []int{top + 1, top + 2, 1000, 1 << 24, maxIno - 1, maxIno} {
		g, err := fs.Of(f.Map(), next)
		if g == nil || err != api.OK {
			t.Errorf("Of(.., %d) = %d", next, err)
			continue
		}
		n := m.copied()
		n.next = next
		check(t, g, n)
		must(t, g, n, fs.Op{Kind: mkFile, A: "/new"})
		if ino, _, _ := g.Find("/new"); ino != next || g.Next() != next+1 {
			t.Errorf("a new node's number %d, Next() = %d, want %d", ino, g.Next(), next)
		}
		check(t, g, n)
	}
	check(t, f, m)
	var none *treap.Map
	for _, next := range []int{0, 2, 100} {
		if g, err := fs.Of(none, next); g != nil || err != api.ErrForm {
			t.Errorf("Of(nil, %d) = %d", next, err)
		}
	}
	one := mapOf(map[int]api.Node{1: dir()})
	for next, want := range map[int]api.Errno{1: api.ErrForm, 2: api.OK} {
		if _, err := fs.Of(one, next); err != want {
			t.Errorf("Of(.., %d) = %d", next, err)
		}
	}
}

// spoil changes one thing of nodes, so that they may be sound no more.
func spoil(r *rand.Rand, nodes map[int]api.Node) {
	inos := slices.Sorted(maps.Keys(nodes))
	ino := inos[r.Intn(len(inos))]
	x := nodes[ino]
	x.Entries = slices.Clone(x.Entries)
	switch r.Intn(6) {
	case 0:
		delete(nodes, ino)
		return
	case 1:
		nodes[2+r.Intn(30)] = []api.Node{dir(), plain, sym}[r.Intn(3)]
		return
	case 2:
		x = []api.Node{dir(), plain, sym, {}}[r.Intn(4)]
	case 3:
		if len(x.Entries) > 0 {
			x.Entries[r.Intn(len(x.Entries))].Ino = inos[r.Intn(len(inos))]
		}
	case 4:
		if x.Kind == api.Dir {
			x.Entries = append(x.Entries, api.Entry{Name: "~" + strconv.Itoa(r.Intn(9)), Ino: inos[r.Intn(len(inos))]})
		}
	case 5:
		if len(x.Entries) > 0 {
			x.Entries = slices.Delete(x.Entries, 0, 1)
		}
	}
	nodes[ino] = x
}

// P11.2
func TestSoundOfRandomMaps(t *testing.T) {
	rounds := 300
	if testing.Short() {
		rounds = 30
	}
	count := map[bool]int{}
	for round := range rounds {
		r := rand.New(rand.NewSource(int64(round)))
		m := newModel()
		for range 60 {
			m.do(randomOp(r, m))
		}
		for range 20 {
			nodes := maps.Clone(m.nodes())
			for range r.Intn(3) {
				if len(nodes) > 0 {
					spoil(r, nodes)
				}
			}
			want := wantSound(nodes)
			count[want]++
			checkSound(t, mapOf(nodes), want)
		}
	}
	if count[true] < rounds*2 || count[false] < rounds*2 {
		t.Error(count)
	}
}
