package diff_test

import (
	"fmt"
	"maps"
	"math"
	"math/rand"
	"slices"
	"strings"
	"testing"

	"snapferry/api"
	"snapferry/cmd"
	"snapferry/diff"
	"snapferry/fs"
)

// letters: so many bytes, no two chunks of which are the same.
func letters(n int) string {
	var b strings.Builder
	for i := 0; b.Len() < n; i++ {
		fmt.Fprintf(&b, "%08d", i)
	}
	return b.String()[:n]
}

func file(path, data string) []fs.Op {
	return []fs.Op{{Kind: 1, A: path, N: 420}, {Kind: 8, A: path, Data: data}}
}

func join(lists ...[]fs.Op) []fs.Op { return slices.Concat(lists...) }

// wantCommands: both ways are as the model has them; the one there is just this.
func wantCommands(t *testing.T, p, c *fs.FS, want ...cmd.Cmd) {
	t.Helper()
	if got := check(t, p, c); !slices.Equal(got, want) {
		t.Errorf("Plan = %+v\nwant %+v", got, want)
	}
	check(t, c, p)
}

// P14.1: the document's example.
func TestPlanOfMovedNode(t *testing.T) {
	empty := fs.New()
	p := operated(t, empty, fs.Op{Kind: 1, A: "/a"})
	c := operated(t, p, fs.Op{Kind: 7, A: "/a", B: "/b"})
	wantCommands(t, p, c, cmd.Cmd{Kind: 5, Src: 1, Name: "a"}, cmd.Cmd{Kind: 4, Ino: 2, Src: 1, Name: "b"})
}

// P14.1: the six steps, in their order.
func TestPlanOrder(t *testing.T) {
	empty := fs.New()
	p := operated(t, empty, join(
		[]fs.Op{{Kind: 2, A: "/d", N: 1}, {Kind: 2, A: "/e", N: 1}}, // 2, 3
		file("/d/f", letters(40)),                                   // 4
		file("/d/g", "g"),                                           // 5
		[]fs.Op{{Kind: 3, A: "/e/s", Data: "s"}, {Kind: 1, A: "/e/x"}, {Kind: 1, A: "/y"}}, // 6, 7, 8
	)...)
	c := operated(t, p, join(
		[]fs.Op{{Kind: 5, A: "/e/x"}, {Kind: 5, A: "/y"}, {Kind: 11, A: "/d", N: 2}, {Kind: 11, A: "/e/s", N: 3}},
		[]fs.Op{{Kind: 7, A: "/e/s", B: "/d/s"}, {Kind: 7, A: "/d/g", B: "/a"}},
		[]fs.Op{{Kind: 2, A: "/n", N: 4}, {Kind: 3, A: "/n/t", Data: "t"}, {Kind: 11, A: "/n/t", N: 5}}, // 9, 10
		file("/n/h", letters(40)[16:32]+"new"),                                                          // 11
		[]fs.Op{{Kind: 9, A: "/d/f", N: 20}, {Kind: 8, A: "/a", Data: "G"}},
	)...)
	wantCommands(t, p, c,
		cmd.Cmd{Kind: 10, Ino: 7}, cmd.Cmd{Kind: 10, Ino: 8},
		cmd.Cmd{Kind: 2, Ino: 9, N: 4}, cmd.Cmd{Kind: 3, Ino: 10, Data: "t"}, cmd.Cmd{Kind: 6, Ino: 10, N: 5}, cmd.Cmd{Kind: 1, Ino: 11, N: 420},
		cmd.Cmd{Kind: 5, Src: 1, Name: "y"}, cmd.Cmd{Kind: 5, Src: 2, Name: "g"}, cmd.Cmd{Kind: 5, Src: 3, Name: "s"}, cmd.Cmd{Kind: 5, Src: 3, Name: "x"},
		cmd.Cmd{Kind: 4, Ino: 5, Src: 1, Name: "a"}, cmd.Cmd{Kind: 4, Ino: 9, Src: 1, Name: "n"}, cmd.Cmd{Kind: 4, Ino: 6, Src: 2, Name: "s"}, cmd.Cmd{Kind: 4, Ino: 11, Src: 9, Name: "h"}, cmd.Cmd{Kind: 4, Ino: 10, Src: 9, Name: "t"},
		cmd.Cmd{Kind: 6, Ino: 2, N: 2}, cmd.Cmd{Kind: 6, Ino: 6, N: 3},
		cmd.Cmd{Kind: 7, Ino: 4, N: 20},
		cmd.Cmd{Kind: 8, Ino: 5, Data: "G"},
		cmd.Cmd{Kind: 7, Ino: 11, N: 19}, cmd.Cmd{Kind: 9, Ino: 11, Src: 4, From: 16, N: 16}, cmd.Cmd{Kind: 8, Ino: 11, Off: 16, Data: "new"},
	)
}

// tiny: all file systems of the node 2 that are unlike in what a plan asks for, and one without it.
func tiny(t *testing.T) []*fs.FS {
	t.Helper()
	others := []inode{
		{kind: 1, mode: 420}, {kind: 1, mode: 420, bytes: "x"}, {kind: 1, mode: 0, bytes: "\x00"}, {kind: 1, mode: 511, bytes: letters(17)},
		{kind: 2, mode: 420, entries: map[string]int{}}, {kind: 2, mode: 511, entries: map[string]int{}},
		{kind: 3, mode: 511, bytes: "x"}, {kind: 3, mode: 511, bytes: "xx"}, {kind: 3, mode: 420, bytes: "x"}, {kind: 3, mode: 420, bytes: "y"}, {kind: 3, mode: 0, bytes: "y"},
	}
	top := func(names ...string) inode {
		x := inode{kind: 2, mode: 493, entries: map[string]int{}}
		for _, name := range names {
			x.entries[name] = 2
		}
		return x
	}
	list := []*fs.FS{made(t, nodes{1: top()}, 2), made(t, nodes{1: top()}, 5)}
	for _, x := range others {
		list = append(list, made(t, nodes{1: top("a"), 2: x}, 3), made(t, nodes{1: top("b"), 2: x}, 4))
		if x.kind != api.Dir {
			list = append(list, made(t, nodes{1: top("a", "b"), 2: x}, 3))
		}
	}
	return list
}

// P14.1, P14.2: any two of them.
func TestPlanOfAnyTwoTiny(t *testing.T) {
	list := tiny(t)
	for i, p := range list {
		for j, c := range list {
			plan := check(t, p, c)
			if same := p.Map().Name() == c.Map().Name(); same != (len(plan) == 0) {
				t.Errorf("%d, %d: %+v", i, j, plan)
			}
		}
	}
}

// P14.1: a node of p's number that is new goes ahead of what comes in its place.
func TestPlanOfOtherKinds(t *testing.T) {
	empty := fs.New()
	f := operated(t, empty, fs.Op{Kind: 1, A: "/a", N: 1}, fs.Op{Kind: 8, A: "/a", Data: "data"})
	d := operated(t, empty, fs.Op{Kind: 2, A: "/a", N: 1})
	s := operated(t, empty, fs.Op{Kind: 3, A: "/a", Data: "data"})
	u := operated(t, s, fs.Op{Kind: 11, A: "/a", N: 1})
	v := operated(t, empty, fs.Op{Kind: 3, A: "/a", Data: "dat"})
	gone := cmd.Cmd{Kind: 10, Ino: 2}
	mode := cmd.Cmd{Kind: 6, Ino: 2, N: 1}
	wantCommands(t, f, d, gone, cmd.Cmd{Kind: 2, Ino: 2, N: 1})
	wantCommands(t, d, f, gone, cmd.Cmd{Kind: 1, Ino: 2, N: 1}, cmd.Cmd{Kind: 7, Ino: 2, N: 4}, cmd.Cmd{Kind: 8, Ino: 2, Data: "data"})
	wantCommands(t, f, s, gone, cmd.Cmd{Kind: 3, Ino: 2, Data: "data"})
	wantCommands(t, f, u, gone, cmd.Cmd{Kind: 3, Ino: 2, Data: "data"}, mode)
	wantCommands(t, v, s, gone, cmd.Cmd{Kind: 3, Ino: 2, Data: "data"})
	wantCommands(t, v, u, gone, cmd.Cmd{Kind: 3, Ino: 2, Data: "data"}, mode)
	wantCommands(t, s, u, mode)
	wantCommands(t, empty, u, cmd.Cmd{Kind: 3, Ino: 2, Data: "data"}, mode, cmd.Cmd{Kind: 4, Ino: 2, Src: 1, Name: "a"})
}

// P14.1: what was a directory's goes with it, without a 5 each; a new one's entries all come.
func TestPlanOfNewDirectories(t *testing.T) {
	empty := fs.New()
	p := operated(t, empty, fs.Op{Kind: 2, A: "/a"}, fs.Op{Kind: 1, A: "/a/x"}, fs.Op{Kind: 2, A: "/a/y"})
	c := operated(t, empty, fs.Op{Kind: 1, A: "/a"}, fs.Op{Kind: 2, A: "/b"}, fs.Op{Kind: 4, A: "/a", B: "/b/x"})
	wantCommands(t, p, c,
		cmd.Cmd{Kind: 10, Ino: 4},
		cmd.Cmd{Kind: 10, Ino: 2}, cmd.Cmd{Kind: 1, Ino: 2}, cmd.Cmd{Kind: 10, Ino: 3}, cmd.Cmd{Kind: 2, Ino: 3},
		cmd.Cmd{Kind: 4, Ino: 3, Src: 1, Name: "b"}, cmd.Cmd{Kind: 4, Ino: 2, Src: 3, Name: "x"})
}

// P14.1: an entry whose number is another goes, and comes.
func TestPlanOfOtherNumbers(t *testing.T) {
	empty := fs.New()
	p := operated(t, empty, fs.Op{Kind: 1, A: "/a"}, fs.Op{Kind: 1, A: "/b"}, fs.Op{Kind: 1, A: "/c"})
	c := operated(t, p, fs.Op{Kind: 7, A: "/a", B: "/t"}, fs.Op{Kind: 7, A: "/c", B: "/a"}, fs.Op{Kind: 7, A: "/t", B: "/c"})
	wantCommands(t, p, c,
		cmd.Cmd{Kind: 5, Src: 1, Name: "a"}, cmd.Cmd{Kind: 5, Src: 1, Name: "c"},
		cmd.Cmd{Kind: 4, Ino: 4, Src: 1, Name: "a"}, cmd.Cmd{Kind: 4, Ino: 2, Src: 1, Name: "c"})
}

// P14.1: numbers that are unlike in one byte, or in all.
func TestPlanOfUnlikeNumbers(t *testing.T) {
	var list []*fs.FS
	for _, ino := range []int{2, 3, 1<<8 + 2, 1<<16 + 2, 1<<24 + 2, 0x01020304, maxNumber - 1} {
		list = append(list, made(t, nodes{1: {kind: api.Dir, entries: map[string]int{"a": ino}}, ino: {kind: api.File}}, maxNumber))
	}
	for i, p := range list {
		for j, c := range list {
			if plan := check(t, p, c); i != j && len(plan) != 4 {
				t.Errorf("%d, %d: Plan = %+v", i, j, plan)
			}
		}
	}
}

// P14.1: modes that are unlike in one bit, or in all.
func TestPlanOfModes(t *testing.T) {
	for _, x := range []inode{{kind: api.File}, {kind: api.Dir}, {kind: api.Sym, bytes: "s"}} {
		list := []*fs.FS{fs.New()}
		for _, mode := range []int{0, 1, 2, 8, 128, 255, 256, 257, 510, 511} {
			x.mode = mode
			list = append(list, made(t, nodes{1: {kind: api.Dir, mode: 511 - mode, entries: map[string]int{"x": 2}}, 2: x}, 3))
		}
		for _, p := range list {
			for _, c := range list {
				check(t, p, c)
			}
		}
	}
}

// P14.1: lengths at and about chunks' ends.
func TestPlanOfLengths(t *testing.T) {
	empty := fs.New()
	const size = 5 * chunkSize
	lengths := []int{0, 1, 15, 16, 17, 31, 32, 33, size - 1, size, maxSize - 1, maxSize}
	for _, fill := range []string{letters(maxSize), strings.Repeat("\x00", maxSize), strings.Repeat("x", maxSize), letters(20) + strings.Repeat("\x00", maxSize-20)} {
		for _, n := range lengths {
			p := operated(t, empty, file("/f", fill[:n])...)
			for _, m := range lengths {
				c := operated(t, empty, file("/f", fill[:m])...)
				plan := check(t, p, c)
				if sized := len(plan) > 0 && plan[0].Kind == 7 && plan[0].N == m; sized != (n != m) {
					t.Errorf("%d, %d: %+v", n, m, plan)
				}
			}
		}
	}
}

// P14.1: noughts that fill a file up aren't told; others are, as any chunk is.
func TestPlanOfNoughts(t *testing.T) {
	empty := fs.New()
	noughts := strings.Repeat("\x00", chunkSize)
	p := operated(t, empty, file("/f", "some")...)
	c := operated(t, p, fs.Op{Kind: 9, A: "/f", N: maxSize})
	wantCommands(t, p, c, cmd.Cmd{Kind: 7, Ino: 2, N: maxSize})
	p = operated(t, empty, file("/f", letters(32))...)
	c = operated(t, p, fs.Op{Kind: 8, A: "/f", Data: noughts})
	wantCommands(t, p, c, cmd.Cmd{Kind: 8, Ino: 2, Data: noughts})
	p = operated(t, p, file("/g", "x"+letters(31)[1:]+"y"+noughts)...)
	c = operated(t, p, fs.Op{Kind: 8, A: "/f", Data: noughts})
	wantCommands(t, p, c, cmd.Cmd{Kind: 9, Ino: 2, Src: 3, From: 32, N: chunkSize})
}

// P14.1: bytes are taken of what p was: of files that go, and of those that are written to.
func TestPlanOfTakenBytes(t *testing.T) {
	empty := fs.New()
	one, two := letters(16), letters(48)[32:]
	p := operated(t, empty, join(file("/a", one), file("/b", two), file("/c", "tail"))...)
	c := operated(t, p, fs.Op{Kind: 8, A: "/a", Data: two}, fs.Op{Kind: 8, A: "/b", Data: one}, fs.Op{Kind: 5, A: "/c"}, fs.Op{Kind: 1, A: "/d"}, fs.Op{Kind: 8, A: "/d", Data: "tail"})
	wantCommands(t, p, c,
		cmd.Cmd{Kind: 10, Ino: 4}, cmd.Cmd{Kind: 1, Ino: 5},
		cmd.Cmd{Kind: 5, Src: 1, Name: "c"}, cmd.Cmd{Kind: 4, Ino: 5, Src: 1, Name: "d"},
		cmd.Cmd{Kind: 9, Ino: 2, Src: 3, N: 16}, cmd.Cmd{Kind: 9, Ino: 3, Src: 2, N: 16},
		cmd.Cmd{Kind: 7, Ino: 5, N: 4}, cmd.Cmd{Kind: 9, Ino: 5, Src: 4, N: 4})
	// A chunk is the whole of 16 bytes, or the last one: neither a part of one, nor one that begins elsewhere.
	p = operated(t, empty, file("/a", letters(24))...)
	c = operated(t, p, join(file("/b", letters(8)), file("/c", letters(24)[4:20]), file("/d", letters(24)[16:]+letters(16)))...)
	wantCommands(t, p, c,
		cmd.Cmd{Kind: 1, Ino: 3, N: 420}, cmd.Cmd{Kind: 1, Ino: 4, N: 420}, cmd.Cmd{Kind: 1, Ino: 5, N: 420},
		cmd.Cmd{Kind: 4, Ino: 3, Src: 1, Name: "b"}, cmd.Cmd{Kind: 4, Ino: 4, Src: 1, Name: "c"}, cmd.Cmd{Kind: 4, Ino: 5, Src: 1, Name: "d"},
		cmd.Cmd{Kind: 7, Ino: 3, N: 8}, cmd.Cmd{Kind: 8, Ino: 3, Data: letters(8)},
		cmd.Cmd{Kind: 7, Ino: 4, N: 16}, cmd.Cmd{Kind: 8, Ino: 4, Data: letters(24)[4:20]},
		cmd.Cmd{Kind: 7, Ino: 5, N: 24}, cmd.Cmd{Kind: 8, Ino: 5, Data: letters(24)[16:] + letters(8)}, cmd.Cmd{Kind: 8, Ino: 5, Off: 16, Data: letters(16)[8:]})
}

// P14.1: of chunks that are the same the first one, by numbers and places; not of symbolic links, nor of c.
func TestPlanTakesFirstChunk(t *testing.T) {
	empty := fs.New()
	text, other := letters(16), letters(48)[32:]
	p := operated(t, empty, join([]fs.Op{{Kind: 3, A: "/s", Data: text}, {Kind: 3, A: "/t", Data: "tail"}}, file("/z", other+text+text+"tail"), file("/a", text+"tail"))...)
	c := operated(t, p, file("/n", "more"+text[4:]+text+"tail")...)
	wantCommands(t, p, c,
		cmd.Cmd{Kind: 1, Ino: 6, N: 420}, cmd.Cmd{Kind: 4, Ino: 6, Src: 1, Name: "n"}, cmd.Cmd{Kind: 7, Ino: 6, N: 36},
		cmd.Cmd{Kind: 8, Ino: 6, Data: "more" + text[4:]},
		cmd.Cmd{Kind: 9, Ino: 6, Src: 4, Off: 16, From: 16, N: 16}, cmd.Cmd{Kind: 9, Ino: 6, Src: 4, Off: 32, From: 48, N: 4})
	// What c alone has is written each time.
	c = operated(t, empty, join(file("/a", other+other), file("/b", other))...)
	wantCommands(t, empty, c,
		cmd.Cmd{Kind: 1, Ino: 2, N: 420}, cmd.Cmd{Kind: 1, Ino: 3, N: 420},
		cmd.Cmd{Kind: 4, Ino: 2, Src: 1, Name: "a"}, cmd.Cmd{Kind: 4, Ino: 3, Src: 1, Name: "b"},
		cmd.Cmd{Kind: 7, Ino: 2, N: 32}, cmd.Cmd{Kind: 8, Ino: 2, Data: other}, cmd.Cmd{Kind: 8, Ino: 2, Off: 16, Data: other},
		cmd.Cmd{Kind: 7, Ino: 3, N: 16}, cmd.Cmd{Kind: 8, Ino: 3, Data: other})
}

// full: 256 nodes of the numbers from first on, in directories of so many entries each.
func full(t *testing.T, first, wide int, kinds ...int) *fs.FS {
	t.Helper()
	l := nodes{1: {kind: api.Dir, mode: 493, entries: map[string]int{}}}
	dirs := []int{1}
	for ino := first; len(l) < maxNodes; ino++ {
		x := inode{kind: kinds[ino%len(kinds)], mode: ino % 512}
		if len(dirs)*wide < maxNodes {
			x.kind = api.Dir
		}
		switch x.kind {
		case api.Dir:
			x.entries = map[string]int{}
			dirs = append(dirs, ino)
		case api.Sym:
			x.bytes = fmt.Sprint("t", ino%7)
		default:
			x.bytes = letters(ino % 100)
		}
		i := 0
		for len(l[dirs[i]].entries) >= wide {
			i++
		}
		l[dirs[i]].entries[fmt.Sprint("n", ino)] = ino
		l[ino] = x
	}
	return made(t, l, max(first+maxNodes, 1000))
}

// P14.2: no limit is met on the way.
func TestPlanOfFull(t *testing.T) {
	list := []*fs.FS{
		fs.New(),
		full(t, 2, 64, 1), full(t, 2, 64, 3, 1), full(t, 2, 64, 2, 3), full(t, 3, 64, 1), full(t, 300, 64, 1, 2),
		full(t, 2, 4, 1, 3), full(t, 100, 5, 2, 1, 3), full(t, maxNumber-maxNodes, 64, 1, 2, 3),
	}
	for _, p := range list {
		for _, c := range list {
			check(t, p, c)
		}
	}
}

// P14.2: 64 entries for 64 others.
func TestPlanOfFullDirectories(t *testing.T) {
	var list []*fs.FS
	for _, name := range []string{"a%d", "b%d", "%02d"} {
		for step := range 3 {
			l := nodes{1: {kind: api.Dir, entries: map[string]int{}}, 2: {kind: api.File, bytes: "2"}, 3: {kind: api.Sym, bytes: "3"}}
			for i := range maxEntries {
				l[1].entries[fmt.Sprintf(name, i)] = 2 + (i*step/2)%2
			}
			if l[1].entries[fmt.Sprintf(name, maxEntries-1)] == 2 && step == 0 {
				delete(l, 3)
			}
			list = append(list, made(t, l, 4))
		}
	}
	for _, p := range list {
		for _, c := range list {
			check(t, p, c)
		}
	}
}

// P14.2: eight directories within one another, turned about.
func TestPlanOfDeep(t *testing.T) {
	chain := func(inos ...int) *fs.FS {
		l := nodes{1: {kind: api.Dir, entries: map[string]int{}}}
		at := 1
		for _, ino := range inos {
			l[at].entries["d"] = ino
			l[ino] = inode{kind: api.Dir, entries: map[string]int{}}
			at = ino
		}
		return made(t, l, 10)
	}
	list := []*fs.FS{chain(), chain(2, 3, 4, 5, 6, 7, 8, 9), chain(9, 8, 7, 6, 5, 4, 3, 2), chain(3, 2, 5, 4, 7, 6, 9, 8), chain(5, 6, 7, 8), chain(8)}
	for _, p := range list {
		for _, c := range list {
			check(t, p, c)
		}
	}
}

// P14.2: 1 is never new, whatever is told of it.
func TestPlanOfRoots(t *testing.T) {
	p := made(t, nodes{1: {kind: api.Dir, mode: 0, entries: map[string]int{}}}, 2)
	c := made(t, nodes{1: {kind: api.Dir, mode: 511, entries: map[string]int{}}}, 3)
	wantCommands(t, p, c, cmd.Cmd{Kind: 6, Ino: 1, N: 511})
	wantCommands(t, p, operated(t, p))
}

// P14.1: the last number that there can be. (No stage ends with the number behind it.)
func TestPlanOfLastNumber(t *testing.T) {
	p := made(t, nodes{1: {kind: api.Dir, entries: map[string]int{}}}, maxNumber)
	c := operated(t, p, file("/f", "f")...)
	want := []cmd.Cmd{{Kind: 1, Ino: maxNumber, N: 420}, {Kind: 4, Ino: maxNumber, Src: 1, Name: "f"}, {Kind: 7, Ino: maxNumber, N: 1}, {Kind: 8, Ino: maxNumber, Data: "f"}}
	plan := diff.Plan(p, c)
	if !slices.Equal(plan, want) {
		t.Fatalf("Plan = %+v", plan)
	}
	s := cmd.New(p)
	for _, x := range plan {
		if err := s.Do(x); err != api.OK {
			t.Errorf("Do(%+v) = %d", x, err)
		}
	}
	if s.Map().Name() != c.Map().Name() {
		t.Error("it makes another one")
	}
}

// P14.2: by lot, of the same numbers.
func TestPlanOfAnyTwo(t *testing.T) {
	r := rand.New(rand.NewSource(14))
	for range 150 {
		m := newMaker(r, 1+r.Intn(30), 1+r.Intn(40))
		list := []*fs.FS{m.fs(t), m.fs(t), m.fs(t)}
		for _, p := range list {
			checkIndex(t, p)
			for _, c := range list {
				check(t, p, c)
			}
		}
	}
	for range 4 {
		m := newMaker(r, 300, 64)
		p, c := m.fs(t), m.fs(t)
		check(t, p, c)
		check(t, c, p)
	}
}

// lot: an operation by lot.
func lot(r *rand.Rand, m *maker) fs.Op {
	path := func() string {
		s := ""
		for range 1 + r.Intn(3) {
			s += "/" + m.names[r.Intn(len(m.names))]
		}
		return s
	}
	return fs.Op{Kind: 1 + r.Intn(11), A: path(), B: path(), Off: r.Intn(60), From: r.Intn(30), N: r.Intn(80), Data: m.bytes()}
}

// P14.2: by lot, of what one became by operations.
func TestPlanOfOperations(t *testing.T) {
	r := rand.New(rand.NewSource(41))
	for range 30 {
		m := newMaker(r, 3, 4)
		p := fs.New()
		list := []*fs.FS{p.Copy()}
		for range 200 {
			p.Do(lot(r, m))
			if r.Intn(20) == 0 {
				list = append(list, p.Copy())
			}
		}
		for range 20 {
			check(t, list[r.Intn(len(list))], list[r.Intn(len(list))])
		}
	}
}

// P14.2: nothing of p and p, the same object or another.
func TestPlanOfSame(t *testing.T) {
	r := rand.New(rand.NewSource(2))
	for range 50 {
		p := newMaker(r, 20, 20).fs(t)
		if plan := diff.Plan(p, p); len(plan) != 0 {
			t.Errorf("Plan = %+v", plan)
		}
		if plan := diff.Plan(p, p.Copy()); len(plan) != 0 {
			t.Errorf("Plan = %+v", plan)
		}
	}
}

// P14.1: an answer is a list of its own.
func TestPlanIsNew(t *testing.T) {
	empty := fs.New()
	c := operated(t, empty, join(file("/a", "text"), []fs.Op{{Kind: 3, A: "/s", Data: "t"}})...)
	first := diff.Plan(empty, c)
	want := slices.Clone(first)
	second := diff.Plan(empty, c)
	for i := range second[:cap(second)] {
		second[:cap(second)][i] = cmd.Cmd{Kind: -1}
	}
	if !slices.Equal(first, want) || !slices.Equal(diff.Plan(empty, c), want) {
		t.Errorf("Plan = %+v, was %+v", first, want)
	}
	c.Do(fs.Op{Kind: 8, A: "/a", Data: "TEXT"})
	if !slices.Equal(first, want) {
		t.Errorf("Plan = %+v, was %+v", first, want)
	}
}

// checkIndex holds it against each file's chunks.
func checkIndex(t *testing.T, p *fs.FS) {
	t.Helper()
	want := map[string][2]int{}
	for text, at := range nodesOf(t, p).places() {
		want[text] = [2]int{at.ino, at.at}
	}
	if got := diff.Index(p); !maps.Equal(got, want) {
		t.Fatalf("Index = %+v, want %+v", got, want)
	}
}

// P14.1.
func TestIndex(t *testing.T) {
	empty := fs.New()
	if m := diff.Index(empty); len(m) != 0 {
		t.Errorf("Index = %+v", m)
	}
	text, noughts := letters(32), strings.Repeat("\x00", 32)
	p := operated(t, empty, join(
		[]fs.Op{{Kind: 3, A: "/s", Data: "link"}, {Kind: 2, A: "/d"}, {Kind: 1, A: "/empty"}},
		file("/d/z", text+text+"tail"), // 5
		file("/b", "tail"),             // 6
		file("/a", noughts+"\x00"),     // 7
		file("/c", text[16:]+"more"),   // 8
		file("/e", letters(maxSize)[32:]+letters(32)),
	)...)
	m := diff.Index(p)
	want := map[string][2]int{text[:16]: {5, 0}, text[16:]: {5, 16}, "tail": {5, 64}, noughts[:16]: {7, 0}, "\x00": {7, 32}, "more": {8, 16}}
	for key, at := range want {
		if m[key] != at {
			t.Errorf("Index: %q is at %v, want %v", key, m[key], at)
		}
	}
	if last := letters(maxSize)[maxSize-16:]; m[last] != [2]int{9, maxSize - 48} || len(m) != 6+maxSize/16-2 {
		t.Errorf("Index: %v, and %d", m[last], len(m))
	}
	checkIndex(t, p)
	clear(m)
	checkIndex(t, p)
}

// P14.1.
func TestCost(t *testing.T) {
	l := []cmd.Cmd{{Kind: 8, Data: letters(16)}, {Kind: 3, Data: "link"}, {Kind: 8}, {Kind: 8, Ino: 3, Name: "name", N: 99, Off: 7, Data: "\x00\x00é"}}
	for kind := -2; kind < 300; kind++ {
		if kind != 8 {
			l = append(l, cmd.Cmd{Kind: kind, N: 5, Name: "n", Data: "data"})
		}
	}
	for _, kind := range []int{math.MinInt, math.MaxInt, 8 + 1<<8, 8 + 1<<32, -8, 8 - 1<<32} {
		l = append(l, cmd.Cmd{Kind: kind, Data: "data"})
	}
	was := slices.Clone(l)
	if n := diff.Cost(l); n != 16+4 {
		t.Errorf("Cost = %d", n)
	}
	if !slices.Equal(l, was) {
		t.Error("Cost changes the list")
	}
	if n := diff.Cost(nil); n != 0 {
		t.Errorf("Cost = %d", n)
	}
	big := strings.Repeat("x", 1<<20)
	if n := diff.Cost(slices.Repeat([]cmd.Cmd{{Kind: 8, Data: big}}, 2047)); n != 2047<<20 {
		t.Errorf("Cost = %d", n)
	}
}

// P14.2: what is written is what p hasn't.
func TestCostOfPlans(t *testing.T) {
	empty := fs.New()
	p := operated(t, empty, file("/a", letters(maxSize))...)
	c := operated(t, empty, join(file("/x", letters(maxSize)[16:]+"12345678"), file("/y", letters(maxSize)))...)
	if n := diff.Cost(check(t, p, c)); n != 8 {
		t.Errorf("Cost = %d", n)
	}
	if n := diff.Cost(check(t, empty, c)); n != 2*maxSize-8 {
		t.Errorf("Cost = %d", n)
	}
	if n := diff.Cost(check(t, c, empty)); n != 0 {
		t.Errorf("Cost = %d", n)
	}
}
