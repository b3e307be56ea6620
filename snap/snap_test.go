package snap_test

import (
	"bytes"
	"math/rand"
	"slices"
	"strconv"
	"strings"
	"testing"
	"unsafe"

	"snapferry/api"
	"snapferry/fs"
	"snapferry/snap"
)

// filled has so many snapshots, n00 and on, each of a file system of its own.
func filled(t *testing.T, n int) (pair, *fs.FS) {
	t.Helper()
	p, f := newPair(t), some(t)
	for i := range n {
		do(t, f, fs.Op{Kind: 11, A: "/d", N: i})
		p.must(t, api.OK, p.take(t, numbered(i), f))
	}
	return p, f
}

func numbered(i int) string { return "n" + strconv.Itoa(i/10) + strconv.Itoa(i%10) }

// The chapter's example. P12.1, P12.2
func TestChaptersExample(t *testing.T) {
	s, f := snap.New(), fs.New()
	do(t, f, fs.Op{Kind: 1, A: "/f"}, fs.Op{Kind: 8, A: "/f", Data: "first"})
	if err := s.Take("a", f); err != api.OK {
		t.Fatal(err)
	}
	do(t, f, fs.Op{Kind: 8, A: "/f", Data: "other"})
	g, err := s.Get("a")
	if err != api.OK {
		t.Fatal(err)
	}
	if data, err := g.Read("/f", 0, 10); data != "first" || err != api.OK {
		t.Errorf("%q, %d", data, err)
	}
	if data, _ := f.Read("/f", 0, 10); data != "other" {
		t.Errorf("%q", data)
	}
}

// P12.1
func TestNew(t *testing.T) {
	p := newPair(t)
	if len(p.s.Names()) != 0 {
		t.Error(p.s.Names())
	}
	if f, err := p.s.Get("a"); f != nil || err != api.ErrNone {
		t.Errorf("%v, %d", f, err)
	}
	if f, ok := p.s.Root(fs.New().Map().Name()); f != nil || ok {
		t.Errorf("%v, %v", f, ok)
	}
	p.must(t, api.ErrNone, p.s.Drop("a"))
	p.copied().check(t)
}

// Sets of their own know nothing of one another. P12.1
func TestNewIsItsOwn(t *testing.T) {
	a, b := newPair(t), newPair(t)
	a.must(t, api.OK, a.take(t, "x", some(t)))
	b.check(t)
	b.must(t, api.ErrNone, b.drop(t, "x"))
	b.must(t, api.OK, b.take(t, "x", fs.New()))
	a.check(t)
}

// P12.1
func TestTakeNames(t *testing.T) {
	f := some(t)
	names := []string{"", ".", "..", "...", ".a", "a.", "a/", "/a", "/", "a/b", "a\x00", "\x00", "\x00a", "name", "Name", "a b", " ", "é", "日本語", "\xff\xfe", strings.Repeat("é", 8), strings.Repeat("é", 8) + "x"}
	for b := range 256 {
		names = append(names, string([]byte{byte(b)}), string([]byte{'a', byte(b), 'z'}))
	}
	for n := 14; n < 40; n++ {
		names = append(names, strings.Repeat("n", n))
	}
	for _, name := range names {
		p, want := newPair(t), api.ErrName
		if wantName(name) {
			want = api.OK
		}
		p.must(t, want, p.take(t, name, f))
	}
}

// P12.1
func TestTakeExists(t *testing.T) {
	p, f := newPair(t), some(t)
	p.must(t, api.OK, p.take(t, "a", f))
	p.must(t, api.ErrExists, p.take(t, "a", f))
	do(t, f, changes()...)
	p.must(t, api.ErrExists, p.take(t, "a", f)) // the first one stays
	p.must(t, api.ErrExists, p.take(t, "a", fs.New()))
	p.must(t, api.OK, p.take(t, "A", f)) // and is no other's
	p.must(t, api.OK, p.take(t, "aa", f))
}

// P12.1
func TestTakeOfSixteen(t *testing.T) {
	p, f := filled(t, most)
	do(t, f, fs.Op{Kind: 11, A: "/d", N: 500})
	for range 2 {
		p.must(t, api.ErrLong, p.take(t, "more", f))
	}
	p.must(t, api.OK, p.drop(t, numbered(7)))
	p.must(t, api.OK, p.take(t, "more", f))
	p.must(t, api.ErrLong, p.take(t, numbered(7), f))
	p.must(t, api.ErrNone, p.drop(t, numbered(7)))
	p.must(t, api.ErrLong, p.take(t, numbered(7), f))
}

// Which error is told first. P12.1
func TestTakeErrorsInOrder(t *testing.T) {
	p, f := filled(t, most)
	for _, name := range []string{"", ".", "..", "a/b", "/", "\x00", "/" + numbered(0), strings.Repeat("n", 17)} {
		p.must(t, api.ErrName, p.take(t, name, f))
	}
	for i := range most {
		p.must(t, api.ErrExists, p.take(t, numbered(i), f))
	}
	p.must(t, api.ErrLong, p.take(t, "n", f))
}

// P12.1
func TestGetAndDropOfNone(t *testing.T) {
	p, _ := filled(t, 3)
	for _, name := range []string{"", ".", "..", "/", "n0", "n03", "N00", "n00 ", "n00\x00", "n00/", "/n00", strings.Repeat("n", 17), strings.Repeat("n", 100000)} {
		if f, err := p.s.Get(name); f != nil || err != api.ErrNone {
			t.Errorf("Get(%.40q) = %v, %d", name, f, err)
		}
		p.must(t, api.ErrNone, p.drop(t, name))
	}
}

// P12.1
func TestDrop(t *testing.T) {
	for first := range 5 {
		p, f := filled(t, 5)
		for i := range 5 {
			name := numbered((first + 2*i) % 5)
			p.must(t, api.OK, p.drop(t, name))
			p.must(t, api.ErrNone, p.drop(t, name))
		}
		p.must(t, api.OK, p.take(t, numbered(first), f)) // its name is free again
	}
}

// What comes under a name that was dropped is as it is taken then. P12.1
func TestTakeBehindDrop(t *testing.T) {
	p, f := newPair(t), some(t)
	p.must(t, api.OK, p.take(t, "a", f))
	was := f.Map().Name()
	do(t, f, changes()...)
	p.must(t, api.OK, p.drop(t, "a"))
	p.must(t, api.OK, p.take(t, "a", f))
	if g, ok := p.s.Root(was); g != nil || ok {
		t.Error("what was dropped is there")
	}
}

// Names rise by their bytes, in whatever order they were taken. P12.1
func TestNamesRise(t *testing.T) {
	want := []string{"\x01", " ", "-", "...", "0", "10", "9", "A", "Z", "a", "a\x01", "aa", "ab", "b", "é", "\xff"}
	f, r := some(t), rand.New(rand.NewSource(1))
	for range 50 {
		p := newPair(t)
		for _, i := range r.Perm(len(want)) {
			if err := p.take(t, want[i], f); err != api.OK {
				t.Fatal(want[i], err)
			}
		}
		for range 3 {
			if got := p.s.Names(); !slices.Equal(got, want) {
				t.Fatalf("%q", got)
			}
		}
		p.check(t)
	}
}

// P12.1
func TestRootOfEach(t *testing.T) {
	p, f := filled(t, most)
	for i := range most {
		do(t, f, fs.Op{Kind: 11, A: "/d", N: i})
		g, ok := p.s.Root(f.Map().Name())
		if !ok || told(g) != told(f) {
			t.Errorf("%d: %s, %v, want %s", i, told(g), ok, told(f))
		}
		p.must(t, api.OK, p.drop(t, numbered(i)))
		if g, ok := p.s.Root(f.Map().Name()); g != nil || ok {
			t.Errorf("%d: %s, though it was dropped", i, told(g))
		}
	}
}

// twins have the same map, but each another Next.
func twins(t *testing.T, n int) []*fs.FS {
	t.Helper()
	var l []*fs.FS
	for range n {
		f := some(t)
		for range len(l) {
			do(t, f, fs.Op{Kind: 1, A: "/gone"}, fs.Op{Kind: 5, A: "/gone"})
		}
		l = append(l, f)
	}
	return l
}

// Of several of one map the first one by names is answered, not the one that was taken first. P12.1
func TestRootOfSeveral(t *testing.T) {
	l, r := twins(t, most), rand.New(rand.NewSource(2))
	root := l[0].Map().Name()
	for range 40 {
		p := newPair(t)
		for i, at := range r.Perm(most) {
			if err := p.take(t, numbered(at), l[i]); err != api.OK {
				t.Fatal(err)
			}
			p.checkRoot(t, root)
		}
		for _, name := range p.s.Names() {
			first, _ := p.s.Get(name)
			for range 3 {
				if f, ok := p.s.Root(root); !ok || f.Next() != first.Next() {
					t.Fatalf("Root is not %q", name)
				}
			}
			if err := p.drop(t, name); err != api.OK {
				t.Fatal(err)
			}
		}
		p.checkRoot(t, root)
	}
}

// A root is the map's name, none of its beginnings, digits or keys. P12.1
func TestRootOfNone(t *testing.T) {
	p, f := newPair(t), some(t)
	p.must(t, api.OK, p.take(t, "a", f))
	root := f.Map().Name()
	turned := []byte(root)
	turned[31] ^= 1
	for _, other := range []string{"", "a", "/", root[:31], root[1:], root + "\x00", root + root, string(turned), strings.ToUpper(root) + "x", fs.New().Map().Name()} {
		if g, ok := p.s.Root(other); g != nil || ok {
			t.Errorf("Root(%x) = %s, %v", other, told(g), ok)
		}
	}
	p.check(t)
}

// Whatever is done to what it was taken of, a snapshot stays. P12.2, P0.4
func TestStaysThoughItsSourceChanges(t *testing.T) {
	p, f := newPair(t), some(t)
	p.must(t, api.OK, p.take(t, "first", f))
	for i, o := range changes() {
		do(t, f, o)
		p.check(t)
		if i < most-1 {
			p.must(t, api.OK, p.take(t, numbered(i), f))
		}
	}
	p.check(t)
}

// Whatever is done to what was got, by its name or its root. P12.2, P0.4
func TestStaysThoughWhatWasGotChanges(t *testing.T) {
	p, f := newPair(t), some(t)
	p.must(t, api.OK, p.take(t, "a", f))
	root, was := f.Map().Name(), told(f)
	got, _ := p.s.Get("a")
	asked, _ := p.s.Root(root)
	for _, one := range []*fs.FS{got, asked} {
		other, _ := p.s.Get("a")
		for _, o := range changes() {
			do(t, one, o)
			p.check(t)
		}
		if told(other) != was || told(f) != was {
			t.Error("one that was got changes by what is done to another one")
		}
	}
	if told(got) != told(asked) {
		t.Errorf("%s, and %s", told(got), told(asked))
	}
}

// What was got is like what it was taken of, also in what becomes of it. P12.1
func TestGotIsWorkedOnAsItsSource(t *testing.T) {
	p, f := newPair(t), some(t)
	p.must(t, api.OK, p.take(t, "a", f))
	got, _ := p.s.Get("a")
	asked, _ := p.s.Root(f.Map().Name())
	for _, o := range append(changes(), fs.Op{Kind: 1, A: "/"}, fs.Op{Kind: 5, A: "/none"}) {
		want := f.Do(o)
		if a, b := got.Do(o), asked.Do(o); a != want || b != want || told(got) != told(f) || told(asked) != told(f) {
			t.Fatalf("Do(%v): %d, %d, want %d; %s, %s, want %s", o, a, b, want, told(got), told(asked), told(f))
		}
	}
}

// What was got is a file system of its own once its snapshot went, and a set may take it again. P12.1, P12.2
func TestGotOutlivesItsSnapshot(t *testing.T) {
	p, f := newPair(t), some(t)
	p.must(t, api.OK, p.take(t, "a", f))
	got, _ := p.s.Get("a")
	p.must(t, api.OK, p.drop(t, "a"))
	if told(got) != told(f) {
		t.Errorf("%s, want %s", told(got), told(f))
	}
	q := newPair(t)
	q.must(t, api.OK, q.take(t, "b", got))
	p.must(t, api.OK, p.take(t, "c", got))
	do(t, got, changes()...)
	q.check(t)
	p.must(t, api.OK, p.take(t, "d", got))
	q.check(t)
}

// Two snapshots of one file system, as it is, know nothing of one another. P12.2
func TestTwoOfOne(t *testing.T) {
	p, f := newPair(t), some(t)
	p.must(t, api.OK, p.take(t, "a", f))
	p.must(t, api.OK, p.take(t, "b", f))
	got, _ := p.s.Get("a")
	do(t, got, changes()...)
	p.check(t)
	p.must(t, api.OK, p.drop(t, "a"))
	p.must(t, api.OK, p.take(t, "a", got))
}

// P12.1
func TestCopyGoesItsOwnWay(t *testing.T) {
	p, f := filled(t, 4)
	c := p.copied()
	c.check(t)
	do(t, f, changes()...)
	c.must(t, api.OK, c.drop(t, numbered(1)))
	c.must(t, api.OK, c.take(t, "copy", f))
	p.check(t)
	p.must(t, api.OK, p.drop(t, numbered(2)))
	p.must(t, api.OK, p.take(t, "origin", f))
	c.check(t)
	got, _ := c.s.Get(numbered(0))
	do(t, got, fs.Op{Kind: 6, A: "/e"})
	c.check(t)
	p.check(t)
	d := c.copied()
	for _, name := range c.s.Names() {
		c.must(t, api.OK, c.drop(t, name))
	}
	d.check(t)
	d.must(t, api.OK, d.take(t, numbered(1), f))
	c.check(t)
}

// A copy of a full set is full, one of an empty set is empty. P12.1
func TestCopyOfEdges(t *testing.T) {
	p, f := filled(t, most)
	c := p.copied()
	c.must(t, api.ErrLong, c.take(t, "more", f))
	c.must(t, api.OK, c.drop(t, numbered(0)))
	c.must(t, api.OK, c.take(t, "more", f))
	p.must(t, api.ErrLong, p.take(t, "more", f))
	empty := newPair(t)
	d := empty.copied()
	for i := range most {
		d.must(t, api.OK, d.take(t, numbered(i), f))
	}
	d.must(t, api.ErrLong, d.take(t, "more", f))
	empty.check(t)
}

// Rule 3: what is handed in isn't changed and not kept.
func TestArgumentsAreNotKept(t *testing.T) {
	p, f := newPair(t), some(t)
	was, root := told(f), f.Map().Name()
	text := []byte("name")
	name := unsafe.String(&text[0], len(text)) // whose memory the test may change, as no program's
	p.must(t, api.OK, p.take(t, name, f))
	copy(text, bytes.Repeat([]byte("x"), len(text)))
	p.check(t)
	p.must(t, api.ErrNone, p.drop(t, "xxxx"))
	if told(f) != was || f.Map().Name() != root {
		t.Errorf("taken of %s, it's %s now", was, told(f))
	}
}

// Rule 3: answers are new memory.
func TestAnswersAreNew(t *testing.T) {
	p, f := filled(t, 3)
	first, second := p.s.Names(), p.s.Names()
	third := p.s.Copy().Names()
	for i := range 3 {
		texts := []string{first[i], second[i], third[i]}
		for j, x := range texts {
			if unsafe.StringData(x) == unsafe.StringData(texts[(j+1)%3]) {
				t.Error("two answers share a text")
			}
		}
	}
	first[0] = "changed"
	_ = append(first[:1], "x", "y")
	p.check(t)
	if !slices.Equal(second, []string{"n00", "n01", "n02"}) {
		t.Errorf("two answers share memory: %q", second)
	}
	a, _ := p.s.Get("n02")
	b, _ := p.s.Get("n02")
	c, _ := p.s.Root(f.Map().Name())
	if a == b || b == c || a == c || a == f {
		t.Error("two answers are one file system")
	}
}

// step does to a set and its model, or to a file system, what three bytes tell; the file system to go on with.
func (p pair) step(t *testing.T, what, which, more byte, f *fs.FS) *fs.FS {
	t.Helper()
	name := numbered(int(which) % 20)
	switch what % 8 {
	case 0, 1, 2:
		p.take(t, name, f)
	case 3:
		p.drop(t, name)
	case 4:
		if got, err := p.s.Get(name); err == api.OK {
			return got
		}
	default:
		f.Do(changes()[int(more)%len(changes())])
	}
	return f
}

// walk goes through sets and copies of them as the bytes tell.
func walk(t *testing.T, steps []byte) {
	t.Helper()
	pairs, f := []pair{newPair(t)}, some(t)
	for ; len(steps) >= 3; steps = steps[3:] {
		at := int(steps[0]>>4) % len(pairs)
		if steps[0]&15 == 15 {
			pairs = append(pairs, pairs[at].copied())
			pairs = pairs[max(0, len(pairs)-3):]
		} else {
			f = pairs[at].step(t, steps[0]&15, steps[1], steps[2], f)
		}
		for _, p := range pairs {
			p.check(t)
		}
	}
}

// P12.1, P12.2, P0.4
func TestWalksAgainstModel(t *testing.T) {
	r := rand.New(rand.NewSource(12))
	for range 8 {
		steps := make([]byte, 3*80)
		r.Read(steps)
		walk(t, steps)
	}
}

func FuzzWalk(f *testing.F) {
	f.Add([]byte("123abc123abc"))
	f.Add(bytes.Repeat([]byte{0, 1, 2, 15, 0, 0, 16, 9, 9, 3, 1, 0}, 10))
	f.Fuzz(func(t *testing.T, steps []byte) { walk(t, steps[:min(len(steps), 300)]) })
}

// Any text is a name that may be handed in. P12.1
func FuzzNames(f *testing.F) {
	for _, name := range []string{"", "a", "..", "a/b", strings.Repeat("n", 17)} {
		f.Add(name, "other")
	}
	f.Fuzz(func(t *testing.T, a, b string) {
		p, source := newPair(t), fs.New()
		p.take(t, a, source)
		p.take(t, b, source)
		p.check(t)
		p.drop(t, a)
		p.check(t)
		p.drop(t, b)
		p.check(t)
	})
}
