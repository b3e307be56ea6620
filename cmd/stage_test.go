package cmd_test

import (
	"bytes"
	"fmt"
	"math"
	"math/rand"
	"slices"
	"strconv"
	"strings"
	"testing"
	"unsafe"

	"snapferry/api"
	"snapferry/cmd"
	"snapferry/fs"
	"snapferry/treap"
)

// noInos are numbers that no node of a file system has.
var noInos = []int{0, -1, -2, math.MinInt, math.MaxInt, 1 << 31, 1<<31 + 1, 1<<32 - 1, 1 << 32, 1<<32 + top, 1<<32 + folder, 1<<32 + long, 1<<32 + link, 1<<40 + long, -1<<32 + top, -1<<32 + folder, -1<<32 + long, math.MinInt + folder}

// The chapter's example. P13.2
func TestExample(t *testing.T) {
	s := cmd.New(fs.New())
	for _, c := range []cmd.Cmd{{Kind: 1, Ino: 2}, {Kind: 4, Name: "a", Ino: 2, Src: 1}} {
		if err := s.Do(c); err != api.OK {
			t.Errorf("Do(%s) = %d", short(c), err)
		}
	}
	f, err := s.End(3)
	if err != api.OK {
		t.Fatal(err)
	}
	want := fs.New()
	operate(t, want, fs.Op{Kind: 1, A: "/a"})
	if told(f) != told(want) || s.Map().Name() != want.Map().Name() {
		t.Errorf("%s, want %s", told(f), told(want))
	}
}

// P13.2
func TestNewIsTheParent(t *testing.T) {
	for _, parent := range []*fs.FS{fs.New(), some(t)} {
		p := newPair(t, parent)
		if p.s.Map().Name() != parent.Map().Name() {
			t.Error("another map")
		}
		f, err := p.s.End(parent.Next())
		if told(f) != told(parent) || err != api.OK {
			t.Errorf("%s, %d, want %s", told(f), err, told(parent))
		}
	}
}

// What is created, is there, whole. P13.2
func TestCreate(t *testing.T) {
	p := newPair(t, some(t))
	p.must(t, api.OK, cmd.Cmd{Kind: mkFile, Ino: 9, N: 511}, cmd.Cmd{Kind: mkDir, Ino: 7, N: 0}, cmd.Cmd{Kind: mkSym, Ino: maxNumber, Data: "to"}, cmd.Cmd{Kind: mkFile, Ino: 0x01020304})
	for key, want := range map[string]string{"\x00\x00\x00\x09": "\x01\x01\xff", "\x00\x00\x00\x07": "\x02\x00\x00", "\x7f\xff\xff\xff": "\x03\x01\xffto", "\x01\x02\x03\x04": "\x01\x00\x00"} {
		if text, ok := p.s.Map().Get(key); text != want || !ok {
			t.Errorf("%x: %x, %v, want %x", key, text, ok, want)
		}
	}
}

// P13.2
func TestCreateErrors(t *testing.T) {
	for _, kind := range []int{mkFile, mkDir, mkSym} {
		p := newPair(t, some(t))
		right := func(ino int) cmd.Cmd { return named(cmd.Cmd{Kind: kind, Ino: ino, N: 1, Data: "x"}) }
		for _, ino := range append(slices.Clone(noInos), top) {
			p.must(t, api.ErrRange, right(ino))
		}
		for _, ino := range []int{folder, long, link, empty} {
			p.must(t, api.ErrExists, right(ino))
		}
		p.must(t, api.OK, right(next))
		p.must(t, api.ErrExists, right(next))
		p.must(t, api.OK, right(maxNumber), right(maxNumber-1))
		p.must(t, api.OK, cmd.Cmd{Kind: drop, Ino: folder}, right(folder)) // a number that was may be again
		p.must(t, api.ErrExists, right(folder))
	}
}

// Modes and targets that no node has are told ahead of a number that there is. P13.2
func TestCreateOfWrongNodes(t *testing.T) {
	p := newPair(t, some(t))
	for i, ino := range []int{long, 1000} {
		for _, n := range []int{-1, 512, 513, 1024, 65535, 65536, 1 << 31, math.MinInt, math.MaxInt, 1 << 32, 1<<32 + 7} {
			p.must(t, api.ErrRange, cmd.Cmd{Kind: mkFile, Ino: ino, N: n}, cmd.Cmd{Kind: mkDir, Ino: ino, N: n})
		}
		for _, n := range []int{0, 65, 66, 4096, 4097, 1 << 20} {
			p.must(t, api.ErrRange, cmd.Cmd{Kind: mkSym, Ino: ino, Data: strings.Repeat("x", n)})
		}
		want := []api.Errno{api.ErrExists, api.OK}[i]
		p.must(t, want, cmd.Cmd{Kind: mkSym, Ino: ino, Data: strings.Repeat("x", 64)}, cmd.Cmd{Kind: mkFile, Ino: ino + 1000*i, N: 511}, cmd.Cmd{Kind: mkDir, Ino: ino + 2000*i})
	}
	p.must(t, api.OK, cmd.Cmd{Kind: mkSym, Ino: 7, Data: "\x00"}, cmd.Cmd{Kind: mkSym, Ino: 8, Data: "/"})
}

// 256 nodes, and one more. P13.2
func TestCreateOfFull(t *testing.T) {
	p := newPair(t, some(t))
	for ino := next; ino <= maxNodes; ino++ {
		p.must(t, api.OK, named(cmd.Cmd{Kind: 1 + ino%3, Ino: ino, Data: "x"}))
	}
	p.must(t, api.ErrNoSpace, cmd.Cmd{Kind: mkFile, Ino: 300}, cmd.Cmd{Kind: mkDir, Ino: 300}, cmd.Cmd{Kind: mkSym, Ino: 300, Data: "x"})
	p.must(t, api.ErrExists, cmd.Cmd{Kind: mkFile, Ino: 256})
	p.must(t, api.ErrRange, cmd.Cmd{Kind: mkFile, Ino: 300, N: 512}, cmd.Cmd{Kind: mkDir, Ino: 1}, cmd.Cmd{Kind: mkSym, Ino: 300})
	p.must(t, api.OK, cmd.Cmd{Kind: drop, Ino: 100}, cmd.Cmd{Kind: mkDir, Ino: 300})
	p.must(t, api.ErrNoSpace, cmd.Cmd{Kind: mkFile, Ino: 100})
}

// More nodes than there may be, and still they are changed. P13.2
func TestResumeOfTooMany(t *testing.T) {
	m := some(t).Map()
	for ino := next; ino < 300; ino++ {
		m = m.Put(keyOf(ino), "\x01\x00\x00x")
	}
	p := newPair(t, some(t)).resumed(t, m)
	p.must(t, api.ErrNoSpace, cmd.Cmd{Kind: mkFile, Ino: 400})
	p.must(t, api.OK, cmd.Cmd{Kind: chmod, Ino: 299, N: 3}, cmd.Cmd{Kind: write, Ino: 299, Off: 1, Data: "y"})
}

// P13.2
func TestEnter(t *testing.T) {
	p := newPair(t, some(t))
	p.must(t, api.OK,
		cmd.Cmd{Kind: enter, Ino: long, Src: top, Name: "b"}, cmd.Cmd{Kind: enter, Ino: long, Src: top, Name: "B"},
		cmd.Cmd{Kind: enter, Ino: maxNumber, Src: folder, Name: strings.Repeat("n", 16)}, // of a node that isn't there
		cmd.Cmd{Kind: enter, Ino: top, Src: folder, Name: "..."}, cmd.Cmd{Kind: enter, Ino: folder, Src: folder, Name: "\xff"})
	for key, want := range map[string]string{
		"\x00\x00\x00\x01": "\x02\x01\xed\x01B\x00\x00\x00\x03\x01b\x00\x00\x00\x03\x01d\x00\x00\x00\x02\x01e\x00\x00\x00\x05\x01s\x00\x00\x00\x04",
		"\x00\x00\x00\x02": "\x02\x01\xc0\x03...\x00\x00\x00\x01\x01f\x00\x00\x00\x03\x10nnnnnnnnnnnnnnnn\x7f\xff\xff\xff\x01\xff\x00\x00\x00\x02",
	} {
		if text, _ := p.s.Map().Get(key); text != want {
			t.Errorf("%x: %x, want %x", key, text, want)
		}
	}
}

// Each error with all behind it that apply. P13.2
func TestEnterErrors(t *testing.T) {
	p := newPair(t, some(t))
	for _, ino := range noInos {
		for _, src := range []int{9, top, long, folder} {
			p.must(t, api.ErrRange, cmd.Cmd{Kind: enter, Ino: ino, Src: src, Name: "f"}, cmd.Cmd{Kind: enter, Ino: ino, Src: src, Name: "/"}, cmd.Cmd{Kind: enter, Ino: ino, Src: src, Name: "new"})
		}
	}
	for _, src := range append([]int{9, maxNumber, next}, noInos...) {
		p.must(t, api.ErrNone, cmd.Cmd{Kind: enter, Ino: 2, Src: src, Name: "new"}, cmd.Cmd{Kind: enter, Ino: 2, Src: src, Name: ""})
	}
	for _, src := range []int{long, link, empty} {
		p.must(t, api.ErrNotDir, cmd.Cmd{Kind: enter, Ino: 2, Src: src, Name: "new"}, cmd.Cmd{Kind: enter, Ino: 2, Src: src})
	}
	for _, name := range []string{"", ".", "..", "/", "a/b", "\x00", strings.Repeat("n", 17), strings.Repeat("n", 256+1)} {
		p.must(t, api.ErrName, cmd.Cmd{Kind: enter, Ino: 2, Src: folder, Name: name})
	}
	p.must(t, api.ErrExists, cmd.Cmd{Kind: enter, Ino: 3, Src: folder, Name: "f"}, cmd.Cmd{Kind: enter, Ino: 9, Src: folder, Name: "f"})
}

// 64 entries, and one more. P13.2
func TestEnterOfFull(t *testing.T) {
	p := newPair(t, some(t))
	for i := 1; i < maxEntries; i++ {
		p.must(t, api.OK, cmd.Cmd{Kind: enter, Ino: i, Src: folder, Name: strconv.Itoa(i * 37 % 101)})
	}
	p.must(t, api.ErrLong, cmd.Cmd{Kind: enter, Ino: 2, Src: folder, Name: "new"})
	p.must(t, api.ErrExists, cmd.Cmd{Kind: enter, Ino: 2, Src: folder, Name: "f"})
	p.must(t, api.ErrName, cmd.Cmd{Kind: enter, Ino: 2, Src: folder, Name: ""})
	p.must(t, api.OK, cmd.Cmd{Kind: leave, Src: folder, Name: "37"}, cmd.Cmd{Kind: enter, Ino: 2, Src: folder, Name: "new"})
	p.must(t, api.ErrLong, cmd.Cmd{Kind: enter, Ino: 2, Src: folder, Name: "37"})
}

// P13.2
func TestLeave(t *testing.T) {
	p := newPair(t, some(t))
	p.must(t, api.OK, cmd.Cmd{Kind: leave, Src: top, Name: "e"}, cmd.Cmd{Kind: leave, Src: top, Name: "d"}, cmd.Cmd{Kind: leave, Src: folder, Name: "f"})
	p.must(t, api.ErrNone, cmd.Cmd{Kind: leave, Src: top, Name: "e"}, cmd.Cmd{Kind: leave, Src: folder, Name: "f"}, cmd.Cmd{Kind: leave, Src: top, Name: "S"})
	for _, src := range append([]int{9, maxNumber, next}, noInos...) {
		p.must(t, api.ErrNone, cmd.Cmd{Kind: leave, Src: src, Name: "s"}, cmd.Cmd{Kind: leave, Src: src, Name: "/"})
	}
	for _, src := range []int{long, link, empty} {
		p.must(t, api.ErrNotDir, cmd.Cmd{Kind: leave, Src: src, Name: "s"}, cmd.Cmd{Kind: leave, Src: src})
	}
	for _, name := range []string{"", ".", "..", "/", "\x00", "s\x00", strings.Repeat("n", 17)} {
		p.must(t, api.ErrNone, cmd.Cmd{Kind: leave, Src: top, Name: name})
	}
	p.must(t, api.OK, cmd.Cmd{Kind: leave, Src: top, Name: "s"})
}

// P13.2
func TestModes(t *testing.T) {
	p := newPair(t, some(t))
	for _, ino := range []int{top, folder, long, link, empty} {
		for _, n := range []int{0, 1, 255, 256, 493, 510, 511} {
			p.must(t, api.OK, cmd.Cmd{Kind: chmod, Ino: ino, N: n}, cmd.Cmd{Kind: chmod, Ino: ino, N: n})
		}
		for _, n := range []int{-1, 512, 513, 65536, 65537, 1 << 32, math.MinInt, math.MaxInt, -512} {
			p.must(t, api.ErrRange, cmd.Cmd{Kind: chmod, Ino: ino, N: n})
		}
	}
	for _, ino := range append([]int{9, maxNumber, next}, noInos...) {
		p.must(t, api.ErrNone, cmd.Cmd{Kind: chmod, Ino: ino, N: 1}, cmd.Cmd{Kind: chmod, Ino: ino, N: 512})
	}
}

// P13.2
func TestBytesOfNoFile(t *testing.T) {
	p := newPair(t, some(t))
	kinds := []cmd.Cmd{{Kind: size, N: 1}, {Kind: size, N: -1}, {Kind: write, Data: "x"}, {Kind: write, Off: -1}, {Kind: clone, Src: long, N: 1}, {Kind: clone, Src: 9, N: -1}}
	for _, c := range kinds {
		for _, ino := range append([]int{9, maxNumber, next}, noInos...) {
			c.Ino = ino
			p.must(t, api.ErrNone, c)
		}
		c.Ino = top
		p.must(t, api.ErrIsDir, c)
		c.Ino = folder
		p.must(t, api.ErrIsDir, c)
		c.Ino = link
		p.must(t, api.ErrKind, c)
	}
}

// P13.2
func TestSize(t *testing.T) {
	p := newPair(t, some(t))
	for _, n := range []int{40, 39, 100, 1, 0, 16, 4096, 17, 4095, 4096} {
		p.must(t, api.OK, cmd.Cmd{Kind: size, Ino: long, N: n}, cmd.Cmd{Kind: size, Ino: empty, N: n})
	}
	for _, n := range []int{-1, math.MinInt, -1 << 32} {
		p.must(t, api.ErrRange, cmd.Cmd{Kind: size, Ino: long, N: n})
	}
	for _, n := range []int{4097, 1 << 31, 1 << 32, math.MaxInt} {
		p.must(t, api.ErrLong, cmd.Cmd{Kind: size, Ino: long, N: n})
	}
}

// P13.2
func TestWrite(t *testing.T) {
	p := newPair(t, some(t))
	for _, off := range []int{0, 1, 39, 40, 50, 100, 4094, 4095, 4096} {
		p.must(t, api.OK, cmd.Cmd{Kind: write, Ino: long, Off: off, Data: mixed(min(4096-off, off%7+1))}, cmd.Cmd{Kind: write, Ino: empty, Off: off})
	}
	p.must(t, api.OK, cmd.Cmd{Kind: write, Ino: empty, Data: mixed(4096)})
	for _, off := range []int{-1, math.MinInt} {
		p.must(t, api.ErrRange, cmd.Cmd{Kind: write, Ino: long, Off: off, Data: "x"}, cmd.Cmd{Kind: write, Ino: long, Off: off, Data: mixed(5000)}, cmd.Cmd{Kind: write, Ino: long, Off: off})
	}
	for _, off := range []int{4096, 4097, 1 << 31, 1 << 32, math.MaxInt} {
		p.must(t, api.ErrLong, cmd.Cmd{Kind: write, Ino: long, Off: off, Data: "x"})
	}
	p.must(t, api.ErrLong, cmd.Cmd{Kind: write, Ino: long, Off: 4097}, cmd.Cmd{Kind: write, Ino: long, Data: mixed(4097)}, cmd.Cmd{Kind: write, Ino: long, Off: 1, Data: mixed(4096)})
}

// P13.2
func TestClone(t *testing.T) {
	p := newPair(t, some(t))
	p.must(t, api.OK,
		cmd.Cmd{Kind: clone, Ino: empty, Src: long, N: 40}, cmd.Cmd{Kind: clone, Ino: long, Src: long, Off: 3, From: 5, N: 9},
		cmd.Cmd{Kind: clone, Ino: empty, Src: long, Off: 4056, N: 40}, cmd.Cmd{Kind: clone, Ino: empty, Src: long, Off: 7, From: 40},
		cmd.Cmd{Kind: clone, Ino: long, Src: empty, Off: 9}, cmd.Cmd{Kind: clone, Ino: long, Src: long, Off: 60, From: 39, N: 1}, cmd.Cmd{Kind: clone, Ino: long, Src: long, Off: 4096})
	for _, c := range []cmd.Cmd{{From: -1}, {N: -1}, {From: 41}, {N: 41}, {From: 40, N: 1}, {From: 1, N: 40}, {From: math.MaxInt, N: 1}, {From: 1, N: math.MaxInt}, {From: math.MaxInt, N: math.MaxInt}, {From: math.MinInt}, {N: math.MinInt}, {From: -1, N: 1}, {From: 1, N: -1}, {Off: -1}, {Off: math.MinInt, N: 3}, {Off: 5000, N: 41}} {
		c.Kind, c.Ino, c.Src = clone, empty, long
		p.must(t, api.ErrRange, c)
	}
	for _, c := range []cmd.Cmd{{Off: 4097}, {Off: 4096, N: 1}, {Off: 4057, N: 40}, {Off: math.MaxInt, N: 40}, {Off: 1 << 32, N: 1}} {
		c.Kind, c.Ino, c.Src = clone, empty, long
		p.must(t, api.ErrLong, c)
	}
}

// P13.2
func TestCloneOfNoFile(t *testing.T) {
	p := newPair(t, some(t))
	for _, c := range []cmd.Cmd{{}, {N: 1}, {N: -1}, {Off: -1}, {Off: 4097}} {
		c.Kind, c.Ino = clone, long
		for _, src := range append([]int{9, maxNumber, next}, noInos...) {
			c.Src = src
			p.must(t, api.ErrNone, c)
		}
		c.Src = top
		p.must(t, api.ErrIsDir, c)
		c.Src = folder
		p.must(t, api.ErrIsDir, c)
		c.Src = link
		p.must(t, api.ErrKind, c)
	}
}

// A clone is of the parent's file, whatever of that number is on the stage. P13.2
func TestCloneIsOfTheParent(t *testing.T) {
	p := newPair(t, some(t))
	p.must(t, api.OK, cmd.Cmd{Kind: size, Ino: long}, cmd.Cmd{Kind: clone, Ino: long, Src: long, N: 40})
	p.must(t, api.OK, cmd.Cmd{Kind: write, Ino: long, Data: "other"}, cmd.Cmd{Kind: clone, Ino: empty, Src: long, N: 5})
	p.must(t, api.OK, cmd.Cmd{Kind: drop, Ino: long}, cmd.Cmd{Kind: clone, Ino: empty, Src: long, From: 10, N: 5})
	p.must(t, api.ErrNone, cmd.Cmd{Kind: clone, Ino: long, Src: long, N: 5})
	p.must(t, api.OK, cmd.Cmd{Kind: mkDir, Ino: long}, cmd.Cmd{Kind: clone, Ino: empty, Src: long, Off: 99, From: 10, N: 5})
	p.must(t, api.OK, cmd.Cmd{Kind: mkFile, Ino: 9}, cmd.Cmd{Kind: write, Ino: 9, Data: "new"})
	p.must(t, api.ErrNone, cmd.Cmd{Kind: clone, Ino: empty, Src: 9, N: 1})
	p.must(t, api.OK, cmd.Cmd{Kind: drop, Ino: link}, cmd.Cmd{Kind: mkFile, Ino: link})
	p.must(t, api.ErrKind, cmd.Cmd{Kind: clone, Ino: link, Src: link})
	p.must(t, api.ErrIsDir, cmd.Cmd{Kind: clone, Ino: link, Src: folder})
	text, _ := p.s.Map().Get(keyOf(empty))
	if part := mixed(40)[10:15]; text != "\x01\x00\x01"+part+strings.Repeat("\x00", 94)+part {
		t.Errorf("%q", text)
	}
}

// What is done to the parent, when it has a stage, plays no part. Rule 3.
func TestParentGoesItsOwnWay(t *testing.T) {
	parent := some(t)
	a, b := cmd.New(parent), cmd.Resume(parent, parent.Map())
	root := parent.Map().Name()
	operate(t, parent, fs.Op{Kind: 8, A: "/d/f", Data: "changed"}, fs.Op{Kind: 5, A: "/e"}, fs.Op{Kind: 1, A: "/new"})
	was := told(parent)
	for _, s := range []*cmd.Stage{a, b} {
		if s.Map().Name() != root {
			t.Error("the stage was changed")
		}
		if err := s.Do(cmd.Cmd{Kind: clone, Ino: empty, Src: long, N: 40}); err != api.OK {
			t.Error(err)
		}
		if text, _ := s.Map().Get(keyOf(empty)); text != "\x01\x00\x01"+mixed(40) {
			t.Errorf("%q", text)
		}
		if err := s.Do(cmd.Cmd{Kind: clone, Ino: empty, Src: next}); err != api.ErrNone {
			t.Error(err)
		}
	}
	if told(parent) != was {
		t.Errorf("%s, was %s", told(parent), was)
	}
}

// P13.2
func TestDrop(t *testing.T) {
	p := newPair(t, some(t))
	p.must(t, api.ErrState, cmd.Cmd{Kind: drop, Ino: top})
	for _, ino := range append([]int{9, maxNumber, next}, noInos...) {
		p.must(t, api.ErrNone, cmd.Cmd{Kind: drop, Ino: ino})
	}
	for _, ino := range []int{long, folder, link, empty} { // entries that name it stay
		p.must(t, api.OK, cmd.Cmd{Kind: drop, Ino: ino})
		p.must(t, api.ErrNone, cmd.Cmd{Kind: drop, Ino: ino})
	}
	p.must(t, api.ErrState, cmd.Cmd{Kind: drop, Ino: top})
	p.must(t, api.OK, cmd.Cmd{Kind: leave, Src: top, Name: "d"})
}

// P13.2
func TestOtherKinds(t *testing.T) {
	p := newPair(t, some(t))
	for _, kind := range someKinds {
		if kind < 1 || kind > 10 {
			p.must(t, api.ErrKind, cmd.Cmd{Kind: kind}, cmd.Cmd{Kind: kind, Ino: 9, Src: 9, N: 512}, cmd.Cmd{Kind: kind, Ino: long, Src: folder, Name: "f", Data: "x"})
		}
	}
}

// What a Kind doesn't name plays no part when it's done. P13.2
func TestWhatIsNotNamedIsNotRead(t *testing.T) {
	rest := []cmd.Cmd{
		{Ino: -1, Src: -1, Off: -1, From: -1, N: -1, Name: strings.Repeat("/", 99), Data: mixed(5000)},
		{Ino: long, Src: folder, Off: 1, From: 1, N: 1, Name: "f", Data: "x"},
	}
	for _, c := range []cmd.Cmd{{Kind: mkFile, Ino: 9, N: 7}, {Kind: mkDir, Ino: 9, N: 7}, {Kind: mkSym, Ino: 9, Data: "t"}, {Kind: enter, Ino: 9, Src: folder, Name: "n"}, {Kind: leave, Src: folder, Name: "f"},
		{Kind: chmod, Ino: long, N: 7}, {Kind: size, Ino: long, N: 7}, {Kind: write, Ino: long, Off: 7, Data: "w"}, {Kind: clone, Ino: empty, Src: long, Off: 2, From: 3, N: 7}, {Kind: drop, Ino: long}} {
		p := newPair(t, some(t))
		p.must(t, api.OK, c)
		want := p.s.Map().Name()
		for _, d := range rest {
			d.Kind = c.Kind
			q := newPair(t, some(t))
			q.must(t, api.OK, overlaid(d, c))
			if q.s.Map().Name() != want {
				t.Errorf("%s and %s make unlike maps", short(c), short(overlaid(d, c)))
			}
		}
	}
}

// overlaid: what c's Kind names of c, and else what d has.
func overlaid(d, c cmd.Cmd) cmd.Cmd {
	probe := func(one cmd.Cmd) bool { one.Kind = c.Kind; return wantRight(one) }
	if probe(cmd.Cmd{Ino: 1}) {
		d.Ino = c.Ino
	}
	if probe(cmd.Cmd{Src: 1}) {
		d.Src = c.Src
	}
	if probe(cmd.Cmd{Off: 1}) {
		d.Off = c.Off
	}
	if probe(cmd.Cmd{From: 1}) {
		d.From = c.From
	}
	if probe(cmd.Cmd{N: 1}) {
		d.N = c.N
	}
	if probe(cmd.Cmd{Name: "n"}) {
		d.Name = c.Name
	}
	if probe(cmd.Cmd{Data: "d"}) {
		d.Data = c.Data
	}
	return d
}

// End is layer 11's Of. P13.2
func TestEnd(t *testing.T) {
	p := newPair(t, some(t))
	for _, n := range []int{next, next + 1, maxNumber} {
		f, err := p.s.End(n)
		if err != api.OK || f.Next() != n || f.Map().Name() != p.s.Map().Name() {
			t.Errorf("End(%d) = %s, %d", n, told(f), err)
		}
	}
	for _, n := range []int{next - 1, 0, -1, 1, 2, math.MinInt, math.MaxInt, 1 << 31, 1<<32 + next} {
		if f, err := p.s.End(n); f != nil || err != api.ErrForm {
			t.Errorf("End(%d) = %s, %d", n, told(f), err)
		}
	}
	for _, c := range []cmd.Cmd{{Kind: drop, Ino: long}, {Kind: leave, Src: top, Name: "d"}, {Kind: enter, Ino: 9, Src: top, Name: "x"}, {Kind: mkFile, Ino: next}, {Kind: enter, Ino: folder, Src: folder, Name: "x"}, {Kind: enter, Ino: top, Src: top, Name: "x"}} {
		q := newPair(t, some(t))
		q.must(t, api.OK, c)
		if f, err := q.s.End(100); f != nil || err != api.ErrForm {
			t.Errorf("End behind %s = %s, %d", short(c), told(f), err)
		}
	}
}

// A stage that isn't sound goes on, and may be sound again. P13.2
func TestEndIsNoEnd(t *testing.T) {
	p := newPair(t, some(t))
	p.must(t, api.OK, cmd.Cmd{Kind: mkFile, Ino: next})
	p.s.End(next + 1)
	p.check(t)
	p.must(t, api.OK, cmd.Cmd{Kind: enter, Ino: next, Src: top, Name: "x"})
	f, err := p.s.End(next + 1)
	if err != api.OK {
		t.Fatal(err)
	}
	was := told(f)
	p.must(t, api.OK, cmd.Cmd{Kind: write, Ino: next, Data: "later"}, cmd.Cmd{Kind: leave, Src: top, Name: "s"})
	if told(f) != was {
		t.Errorf("%s, was %s", told(f), was)
	}
	operate(t, f, fs.Op{Kind: 8, A: "/x", Data: "own way"}, fs.Op{Kind: 5, A: "/e"})
	p.check(t)
}

// Maps that were handed out never change. P13.2, P13.3
func TestMapsStay(t *testing.T) {
	p := newPair(t, some(t))
	var maps []*treap.Map
	var names []string
	for i := range 60 {
		maps, names = append(maps, p.s.Map()), append(names, p.s.Map().Name())
		p.must(t, api.OK, cmd.Cmd{Kind: write, Ino: long, Data: strconv.Itoa(100 + i)})
	}
	for i, m := range maps {
		if m.Name() != names[i] || slices.Contains(names[:i], names[i]) {
			t.Errorf("the map %d was changed", i)
		}
		p.resumed(t, m).must(t, api.OK, cmd.Cmd{Kind: drop, Ino: long})
	}
	p.check(t)
}

// P13.2
func TestResume(t *testing.T) {
	p := newPair(t, some(t))
	q := p.resumed(t, nil)
	q.must(t, api.ErrNone, cmd.Cmd{Kind: drop, Ino: top}, cmd.Cmd{Kind: chmod, Ino: top}, cmd.Cmd{Kind: write, Ino: long}, cmd.Cmd{Kind: enter, Ino: 2, Src: top, Name: "x"}, cmd.Cmd{Kind: leave, Src: top, Name: "d"})
	if f, err := q.s.End(2); f != nil || err != api.ErrForm {
		t.Errorf("%s, %d", told(f), err)
	}
	q.must(t, api.OK, cmd.Cmd{Kind: mkFile, Ino: 9}, cmd.Cmd{Kind: clone, Ino: 9, Src: long, N: 40})
	q.must(t, api.ErrRange, cmd.Cmd{Kind: mkDir, Ino: top})
	p.check(t)
	other := fs.New()
	operate(t, other, fs.Op{Kind: 1, A: "/a"}, fs.Op{Kind: 2, A: "/b"})
	q = p.resumed(t, other.Map()) // 2 is a file there, 3 a directory
	q.must(t, api.OK, cmd.Cmd{Kind: clone, Ino: 2, Src: long, N: 4})
	q.must(t, api.ErrIsDir, cmd.Cmd{Kind: clone, Ino: 3, Src: long, N: 4}, cmd.Cmd{Kind: clone, Ino: 2, Src: 2, N: 4})
	if f, err := q.s.End(4); err != api.OK || f.Map().Name() != q.s.Map().Name() {
		t.Errorf("%s, %d", told(f), err)
	}
}

// Any 4 bytes may be a key of a map that a stage has come to. P13.2
func TestResumeOfAnyKeys(t *testing.T) {
	inos := []int{0, 1 << 31, 1<<32 - 1, 1<<31 + 5}
	m := some(t).Map()
	for _, ino := range inos {
		m = m.Put(keyOf(ino), "\x01\x00\x01bytes")
	}
	p := newPair(t, some(t)).resumed(t, m)
	for _, ino := range inos {
		p.must(t, api.ErrRange, cmd.Cmd{Kind: mkFile, Ino: ino}, cmd.Cmd{Kind: enter, Ino: ino, Src: top, Name: "x"})
		p.must(t, api.ErrNone, cmd.Cmd{Kind: clone, Ino: ino, Src: ino}, cmd.Cmd{Kind: chmod, Ino: ino - 1<<32}, cmd.Cmd{Kind: drop, Ino: ino + 1<<32})
		p.must(t, api.OK, cmd.Cmd{Kind: chmod, Ino: ino, N: 3}, cmd.Cmd{Kind: size, Ino: ino, N: 3}, cmd.Cmd{Kind: clone, Ino: ino, Src: long, N: 1}, cmd.Cmd{Kind: drop, Ino: ino})
		p.must(t, api.ErrNone, cmd.Cmd{Kind: drop, Ino: ino})
	}
}

// walker makes commands, most of which can be done.
type walker struct {
	r    *rand.Rand
	inos []int
}

func (w walker) ino() int { return w.inos[w.r.Intn(len(w.inos))] }

func (w walker) pick(l ...int) int { return l[w.r.Intn(len(l))] }

func (w walker) number() int {
	return w.pick(0, 0, 0, 1, 2, 7, 15, 16, 17, 39, 40, 41, 100, 420, 511, 512, 4000, 4095, 4096, 4097, -1, maxNumber, 1<<31, math.MaxInt, math.MinInt)
}

func (w walker) cmd() cmd.Cmd {
	names := []string{"a", "b", "d", "e", "f", "s", "x", "", ".", "a/", strings.Repeat("n", 16), strings.Repeat("n", 17)}
	c := cmd.Cmd{Kind: w.r.Intn(12), Ino: w.ino(), Src: w.ino(), Off: w.number(), From: w.number(), N: w.number(), Name: names[w.r.Intn(len(names))], Data: mixed(w.pick(0, 1, 5, 16, 64, 65, 4096))}
	if w.r.Intn(3) == 0 {
		c.Off, c.From, c.N = w.r.Intn(60), w.r.Intn(20), w.r.Intn(30)
	}
	return c
}

// P13.2, P13.3
func TestRandomWalks(t *testing.T) {
	done := map[string]int{}
	for seed := range 60 {
		w := walker{rand.New(rand.NewSource(int64(seed))), []int{1, 2, 2, 3, 3, 4, 5, 5, 6, 7, 8, 9, 9, 100, 0, 1<<32 + 2, maxNumber}}
		p := newPair(t, some(t))
		for i := range 400 {
			c := w.cmd()
			err := p.do(t, c)
			done[fmt.Sprint(c.Kind, " ", err)]++
			if i%20 == 0 {
				p.check(t)
			}
			if w.r.Intn(50) == 0 {
				p = p.resumed(t, p.s.Map())
			}
		}
		p.check(t)
	}
	for kind := 1; kind <= 10; kind++ {
		if done[fmt.Sprint(kind, " ", api.OK)] == 0 {
			t.Errorf("the Kind %d was never done", kind)
		}
	}
}

// What is printed and parsed again does the same. P13.3
func TestParsedDoesTheSame(t *testing.T) {
	for seed := range 20 {
		w := walker{rand.New(rand.NewSource(int64(seed))), []int{1, 2, 3, 4, 5, 6, 7}}
		a, b := newPair(t, some(t)), newPair(t, some(t))
		for range 200 {
			c := named(w.cmd())
			s, err := cmd.Print(c)
			if err != api.OK {
				continue
			}
			d, err := cmd.Parse(c.Kind, s)
			if err != api.OK {
				t.Fatal(err)
			}
			if x, y := a.do(t, c), b.do(t, d); x != y || a.s.Map().Name() != b.s.Map().Name() {
				t.Fatalf("%s: %d, %d", short(c), x, y)
			}
		}
		a.check(t)
		b.check(t)
	}
}

// Texts of commands aren't kept. Rule 3.
func TestCommandsAreNotKept(t *testing.T) {
	p := newPair(t, some(t))
	for _, c := range []cmd.Cmd{{Kind: mkSym, Ino: 9, Data: "target"}, {Kind: enter, Ino: 9, Src: top, Name: "name"}, {Kind: write, Ino: empty, Data: mixed(64)}, {Kind: leave, Src: top, Name: "e"}} {
		name, data := []byte(c.Name+"x"), []byte(c.Data+"x")
		d := c
		d.Name, d.Data = unsafe.String(&name[0], len(c.Name)), unsafe.String(&data[0], len(c.Data)) // whose memory the test may change, as no program's
		if got, want := p.s.Do(d), p.m.do(c); got != want {
			t.Errorf("Do(%s) = %d, want %d", short(c), got, want)
		}
		copy(name, bytes.Repeat([]byte("y"), len(name)))
		copy(data, bytes.Repeat([]byte("y"), len(data)))
		p.check(t)
	}
}

// Stages of one parent, and of one map, know nothing of one another. P13.3
func TestStagesGoTheirOwnWays(t *testing.T) {
	parent := some(t)
	a, b := newPair(t, parent), newPair(t, parent)
	a.must(t, api.OK, cmd.Cmd{Kind: write, Ino: long, Data: "a"}, cmd.Cmd{Kind: drop, Ino: empty})
	c := a.resumed(t, a.s.Map())
	b.must(t, api.OK, cmd.Cmd{Kind: write, Ino: long, Data: "b"}, cmd.Cmd{Kind: clone, Ino: empty, Src: long, N: 3})
	c.must(t, api.OK, cmd.Cmd{Kind: mkFile, Ino: empty})
	a.check(t)
	b.check(t)
	c.check(t)
}

// From one file system to another and back, by hand. P13.2
func TestThereAndBack(t *testing.T) {
	p := newPair(t, some(t))
	there := []cmd.Cmd{
		{Kind: mkDir, Ino: next, N: 7}, {Kind: leave, Src: top, Name: "e"}, {Kind: drop, Ino: empty}, {Kind: enter, Ino: next, Src: top, Name: "g"},
		{Kind: enter, Ino: long, Src: next, Name: "h"}, {Kind: chmod, Ino: long, N: 1}, {Kind: size, Ino: long, N: 16},
	}
	p.must(t, api.OK, there...)
	f, err := p.s.End(next + 1)
	if err != api.OK {
		t.Fatal(err)
	}
	want := some(t)
	operate(t, want, fs.Op{Kind: 2, A: "/g", N: 7}, fs.Op{Kind: 5, A: "/e"}, fs.Op{Kind: 4, A: "/d/f", B: "/g/h"}, fs.Op{Kind: 11, A: "/g/h", N: 1}, fs.Op{Kind: 9, A: "/g/h", N: 16})
	if told(f) != told(want) {
		t.Errorf("%s, want %s", told(f), told(want))
	}
	q := newPair(t, f)
	q.must(t, api.OK, cmd.Cmd{Kind: drop, Ino: next}, cmd.Cmd{Kind: leave, Src: top, Name: "g"}, cmd.Cmd{Kind: mkFile, Ino: empty, N: 1}, cmd.Cmd{Kind: enter, Ino: empty, Src: top, Name: "e"},
		cmd.Cmd{Kind: chmod, Ino: long, N: 420}, cmd.Cmd{Kind: write, Ino: long, Off: 16, Data: mixed(40)[16:]})
	g, err := q.s.End(next)
	if told(g) != told(some(t)) || err != api.OK || g.Map().Name() != some(t).Map().Name() {
		t.Errorf("%s, %d, want %s", told(g), err, told(some(t)))
	}
}
