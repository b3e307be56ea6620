package node_test

import (
	"bytes"
	"encoding/binary"
	"math"
	"math/rand"
	"reflect"
	"slices"
	"strconv"
	"strings"
	"testing"
	"unsafe"

	"snapferry/api"
	"snapferry/node"
)

const (
	maxName    = 16
	maxSize    = 4096
	maxEntries = 64
	maxTarget  = 64
	maxMode    = 511
	maxIno     = 1<<31 - 1
)

var someKinds = []int{api.File, api.Dir, api.Sym, 0, 4, -1, 255, 256, 257, 258, 259, math.MinInt, math.MaxInt}

func file(mode int, data string) api.Node { return api.Node{Kind: api.File, Mode: mode, Data: data} }

func sym(mode int, target string) api.Node {
	return api.Node{Kind: api.Sym, Mode: mode, Target: target}
}

func dir(mode int, entries ...api.Entry) api.Node {
	return api.Node{Kind: api.Dir, Mode: mode, Entries: entries}
}

func entry(name string, ino int) api.Entry { return api.Entry{Name: name, Ino: ino} }

// row is entries of so many rising names, of the numbers from 2 on.
func row(n int) []api.Entry {
	var l []api.Entry
	for i := range n {
		l = append(l, entry("n"+strconv.Itoa(1000+i), i+2))
	}
	return l
}

// mixed is a text without a short period.
func mixed(n int) string {
	b := make([]byte, n)
	for i := range b {
		b[i] = byte(i*i + 31*i + i>>8)
	}
	return string(b)
}

func wantName(s string) bool {
	for i := range len(s) {
		if s[i] == '/' || s[i] == 0 {
			return false
		}
	}
	return len(s) >= 1 && len(s) <= maxName && s != "." && s != ".."
}

func wantRight(x api.Node) bool {
	if x.Mode < 0 || x.Mode > maxMode || len(x.Entries) > maxEntries {
		return false
	}
	for i, e := range x.Entries {
		if !wantName(e.Name) || e.Ino < 1 || e.Ino > maxIno {
			return false
		}
		for _, before := range x.Entries[:i] {
			if before.Name >= e.Name {
				return false
			}
		}
	}
	switch x.Kind {
	case 1:
		return len(x.Data) <= maxSize && x.Target == "" && len(x.Entries) == 0
	case 2:
		return x.Data == "" && x.Target == ""
	case 3:
		return x.Data == "" && len(x.Target) >= 1 && len(x.Target) <= maxTarget && len(x.Entries) == 0
	}
	return false
}

// wantText: of a right node; of others, what would stand there.
func wantText(x api.Node) string {
	b := binary.BigEndian.AppendUint16([]byte{byte(x.Kind)}, uint16(x.Mode))
	switch x.Kind {
	case 1:
		b = append(b, x.Data...)
	case 3:
		b = append(b, x.Target...)
	case 2:
		for _, e := range x.Entries {
			b = append(b, byte(len(e.Name)))
			b = append(b, e.Name...)
			b = binary.BigEndian.AppendUint32(b, uint32(e.Ino))
		}
	}
	return string(b)
}

// wantNode: of a text, if it's one's.
func wantNode(s string) (api.Node, bool) {
	if len(s) < 3 {
		return api.Node{}, false
	}
	x := api.Node{Kind: int(s[0]), Mode: int(binary.BigEndian.Uint16([]byte(s[1:])))}
	switch x.Kind {
	case 1:
		x.Data = s[3:]
	case 3:
		x.Target = s[3:]
	case 2:
		r := bytes.NewBufferString(s[3:])
		for r.Len() > 0 {
			size, _ := r.ReadByte()
			name, ino := r.Next(int(size)), r.Next(4)
			if len(name) < int(size) || len(ino) < 4 {
				return api.Node{}, false
			}
			x.Entries = append(x.Entries, entry(string(name), int(binary.BigEndian.Uint32(ino))))
		}
	}
	if !wantRight(x) {
		return api.Node{}, false
	}
	return x, true
}

// equal takes a list without elements for one that is nil, and each field for itself.
func equal(a, b api.Node) bool {
	if len(a.Entries) == 0 && len(b.Entries) == 0 {
		a.Entries, b.Entries = nil, nil
	}
	return reflect.DeepEqual(a, b)
}

// clone is x in other memory.
func clone(x api.Node) api.Node {
	x.Entries = slices.Clone(x.Entries)
	return x
}

// short is a node, told in few bytes.
func short(x api.Node) string {
	s := "{" + strconv.Itoa(x.Kind) + " " + strconv.Itoa(x.Mode) + " " + strconv.Itoa(len(x.Data)) + " bytes, " + strconv.Itoa(len(x.Target)) + " bytes"
	for _, e := range x.Entries[:min(len(x.Entries), 6)] {
		s += ", " + strconv.Quote(e.Name[:min(len(e.Name), 20)]) + " " + strconv.Itoa(e.Ino)
	}
	return s + ", " + strconv.Itoa(len(x.Entries)) + " entries}"
}

// check: is x right, what is its text, and what is that parsed?
func check(t *testing.T, x api.Node) {
	t.Helper()
	was, want := clone(x), wantRight(x)
	if node.Right(x) != want {
		t.Errorf("Right(%s) = %v", short(x), !want)
	}
	s, err := node.Print(x)
	if !equal(x, was) {
		t.Errorf("%s was changed to %s", short(was), short(x))
	}
	if !want {
		if s != "" || err != api.ErrForm {
			t.Errorf("Print(%s) = %.30x, %d", short(x), s, err)
		}
		checkText(t, wantText(x))
		return
	}
	if s != wantText(x) || err != api.OK {
		t.Errorf("Print(%s) = %.30x, %d, want %.30x", short(x), s, err, wantText(x))
	}
	if y, err := node.Parse(s); !equal(x, y) || !node.Same(x, y) || err != api.OK {
		t.Errorf("Parse(Print(%s)) = %s, %d", short(x), short(y), err)
	}
}

// checkText: what is parsed of a text, and what is that printed?
func checkText(t *testing.T, s string) {
	t.Helper()
	want, isText := wantNode(s)
	wantErr := api.ErrForm
	if isText {
		wantErr = api.OK
	}
	x, err := node.Parse(s)
	if !equal(x, want) || err != wantErr {
		t.Errorf("Parse(%d bytes %.40x) = %s, %d, want %s, %d", len(s), s, short(x), err, short(want), wantErr)
		return
	}
	if again, err := node.Print(x); isText && (again != s || err != api.OK) {
		t.Errorf("Print(Parse(%d bytes %.40x)) = %.40x, %d", len(s), s, again, err)
	}
}

// checkEntries: an entry that is found, one more, one less.
func checkEntries(t *testing.T, x api.Node, name string, ino int) {
	t.Helper()
	was := clone(x)
	checkFind(t, x, name)
	checkWith(t, x, name, ino)
	checkWithout(t, x, name)
	if !equal(x, was) {
		t.Errorf("%s was changed to %s", short(was), short(x))
	}
}

// wantPlace: of the first entry of that name.
func wantPlace(x api.Node, name string) (int, bool) {
	for i, e := range x.Entries {
		if e.Name == name {
			return i, true
		}
	}
	return 0, false
}

func checkFind(t *testing.T, x api.Node, name string) {
	t.Helper()
	want := 0
	at, there := wantPlace(x, name)
	if there {
		want = x.Entries[at].Ino
	}
	if got, ok := node.Find(x, name); got != want || ok != there {
		t.Errorf("Find(%s, %.20q) = %d, %v", short(x), name, got, ok)
	}
}

func checkWith(t *testing.T, x api.Node, name string, ino int) {
	t.Helper()
	var want api.Node
	wantErr := api.OK
	_, there := wantPlace(x, name)
	switch {
	case x.Kind != api.Dir:
		wantErr = api.ErrNotDir
	case !wantName(name):
		wantErr = api.ErrName
	case there:
		wantErr = api.ErrExists
	case len(x.Entries) >= maxEntries:
		wantErr = api.ErrLong
	default:
		want = x
		at := 0
		for at < len(x.Entries) && x.Entries[at].Name < name {
			at++
		}
		want.Entries = append(slices.Clone(x.Entries[:at]), entry(name, ino))
		want.Entries = append(want.Entries, x.Entries[at:]...)
	}
	got, err := node.With(x, name, ino)
	if !equal(got, want) || err != wantErr {
		t.Errorf("With(%s, %.20q, %d) = %s, %d, want %s, %d", short(x), name, ino, short(got), err, short(want), wantErr)
	}
	if back, err := node.Without(got, name); wantErr == api.OK && (!equal(back, x) || err != api.OK) {
		t.Errorf("Without(With(%s, %.20q, %d)) = %s, %d", short(x), name, ino, short(back), err)
	}
}

func checkWithout(t *testing.T, x api.Node, name string) {
	t.Helper()
	var want api.Node
	wantErr := api.OK
	at, there := wantPlace(x, name)
	switch {
	case x.Kind != api.Dir:
		wantErr = api.ErrNotDir
	case !there:
		wantErr = api.ErrNone
	default:
		want = x
		want.Entries = append(slices.Clone(x.Entries[:at]), x.Entries[at+1:]...)
	}
	if got, err := node.Without(x, name); !equal(got, want) || err != wantErr {
		t.Errorf("Without(%s, %.20q) = %s, %d, want %s, %d", short(x), name, short(got), err, short(want), wantErr)
	}
}

// texts: all of at most so many of the letters.
func texts(letters string, most int) []string {
	l := []string{""}
	if most == 0 {
		return l
	}
	shorter := texts(letters, most-1)
	for i := range len(letters) {
		for _, rest := range shorter {
			l = append(l, letters[i:i+1]+rest)
		}
	}
	return l
}

// P10.1
func TestExample(t *testing.T) {
	x := dir(493, entry("a", 2))
	const text = "\x02\x01\xed\x01a\x00\x00\x00\x02"
	if s, err := node.Print(x); s != text || err != api.OK {
		t.Errorf("Print = %x, %d", s, err)
	}
	if y, err := node.Parse(text); !equal(x, y) || err != api.OK {
		t.Errorf("Parse = %s, %d", short(y), err)
	}
}

// P10.1
func TestPrintKnownTexts(t *testing.T) {
	for _, c := range []struct {
		x    api.Node
		want string
	}{
		{file(0, ""), "\x01\x00\x00"},
		{file(511, "\x00\xffé/"), "\x01\x01\xff\x00\xff\xc3\xa9/"},
		{file(256, "\x01\x00\x00"), "\x01\x01\x00\x01\x00\x00"},
		{file(255, "x"), "\x01\x00\xffx"},
		{dir(0), "\x02\x00\x00"},
		{dir(493), "\x02\x01\xed"},
		{dir(1, entry("a", 1), entry("a.", 0x01020304), entry("b", maxIno)), "\x02\x00\x01\x01a\x00\x00\x00\x01\x02a.\x01\x02\x03\x04\x01b\x7f\xff\xff\xff"},
		{dir(7, entry(strings.Repeat("n", 16), 256)), "\x02\x00\x07\x10nnnnnnnnnnnnnnnn\x00\x00\x01\x00"},
		{sym(511, "/"), "\x03\x01\xff/"},
		{sym(0, "\x00"), "\x03\x00\x00\x00"},
		{sym(420, "../a"), "\x03\x01\xa4../a"},
	} {
		if s, err := node.Print(c.x); s != c.want || err != api.OK || wantText(c.x) != c.want {
			t.Errorf("Print(%s) = %x, %d, want %x", short(c.x), s, err, c.want)
		}
		check(t, c.x)
	}
}

// Beside what its Kind names a node has nothing. P10.1
func TestRightOfKinds(t *testing.T) {
	for _, kind := range someKinds {
		for _, data := range []string{"", "d"} {
			for _, target := range []string{"", "t"} {
				for _, entries := range [][]api.Entry{nil, {}, {entry("a", 2)}} {
					x := api.Node{Kind: kind, Mode: 7, Data: data, Target: target, Entries: entries}
					check(t, x)
					none := data == "" && target == "" && len(entries) == 0
					want := kind == 1 && target == "" && len(entries) == 0 || kind == 2 && data == "" && target == "" || kind == 3 && target != "" && data == "" && len(entries) == 0
					if node.Right(x) != want || none && want == (kind < 1 || kind > 2) {
						t.Errorf("Right(%s) = %v", short(x), !want)
					}
				}
			}
		}
	}
	for kind := -300; kind < 900; kind++ {
		check(t, api.Node{Kind: kind})
		check(t, api.Node{Kind: kind, Target: "t"})
	}
}

// P10.1
func TestRightOfModes(t *testing.T) {
	modes := []int{math.MinInt, math.MinInt32, -65536, -512, 65535, 65536, 65536 + 7, 1<<16 + 511, 1 << 32, 1<<32 + 1, math.MaxInt32, math.MaxInt}
	for mode := -10; mode < 1100; mode++ {
		modes = append(modes, mode)
	}
	for _, mode := range modes {
		for _, x := range []api.Node{file(mode, "d"), dir(mode, row(2)...), sym(mode, "t")} {
			check(t, x)
			if node.Right(x) != (mode >= 0 && mode <= 511) {
				t.Errorf("Right of Mode %d", mode)
			}
		}
	}
}

// P10.1, P10.3
func TestLengths(t *testing.T) {
	for _, n := range []int{0, 1, 2, 3, 15, 16, 17, 63, 64, 65, 255, 256, 257, 4095, 4096, 4097, 8192, 65536, 1 << 20} {
		for _, s := range []string{mixed(n), strings.Repeat("\x00", n), strings.Repeat("\xff", n)} {
			check(t, file(420, s))
			check(t, sym(420, s))
		}
		if node.Right(file(420, mixed(n))) != (n <= 4096) || node.Right(sym(420, mixed(n))) != (n >= 1 && n <= 64) {
			t.Errorf("Right of %d bytes", n)
		}
	}
	for n := range 200 {
		check(t, dir(420, row(n)...))
		check(t, file(420, mixed(n)))
		check(t, sym(420, mixed(n)))
		if node.Right(dir(420, row(n)...)) != (n <= 64) {
			t.Errorf("Right of %d entries", n)
		}
	}
}

// P10.1
func TestRightOfNames(t *testing.T) {
	names := texts("/.a\x00\xff", 4)
	for n := range 40 {
		names = append(names, strings.Repeat("n", n), strings.Repeat("é", n), strings.Repeat(".", n), strings.Repeat("n", n)+"/")
	}
	names = append(names, strings.Repeat("n", 255), strings.Repeat("n", 256), strings.Repeat("n", 257), strings.Repeat("n", 256+5))
	for b := range 256 {
		names = append(names, string([]byte{byte(b)}), "n"+string([]byte{byte(b)}))
	}
	for _, s := range names {
		for _, x := range []api.Node{dir(1, entry(s, 2)), dir(1, entry(" ", 2), entry(s, 3)), dir(1, entry(s, 2), entry("\xff\xff", 3))} {
			check(t, x)
		}
		if node.Right(dir(1, entry(s, 2))) != wantName(s) {
			t.Errorf("Right of the name %q", s)
		}
	}
}

// P10.1
func TestRightOfOrder(t *testing.T) {
	names := []string{"a", "b", "c", "A", "aa", "a ", "\x01", "\xff", "é", ".a", "...", "", "/"}
	for _, a := range names {
		for _, b := range names {
			check(t, dir(1, entry(a, 2), entry(b, 3)))
			check(t, dir(1, entry(a, 2), entry(b, 2)))
			for _, c := range names {
				check(t, dir(1, entry(a, 2), entry(b, 3), entry(c, 4)))
			}
		}
	}
	for at := range 63 { // two of 64 stand wrong, or one stands twice
		l := row(64)
		l[at], l[at+1] = l[at+1], l[at]
		check(t, dir(1, l...))
		l = row(64)
		l[at+1].Name = l[at].Name
		check(t, dir(1, l...))
		if node.Right(dir(1, l...)) {
			t.Error("Right, of a name twice")
		}
	}
}

// P10.1
func TestRightOfInos(t *testing.T) {
	for _, ino := range []int{math.MinInt, math.MinInt32, -256, -1, 0, 1, 2, 255, 256, 65536, 1 << 24, 0x01020304, maxIno - 1, maxIno, maxIno + 1, math.MaxUint32, math.MaxUint32 + 1, math.MaxUint32 + 2, math.MaxInt} {
		want := ino >= 1 && ino <= maxIno
		for at := range 3 {
			l := row(3)
			l[at].Ino = ino
			check(t, dir(1, l...))
			if node.Right(dir(1, l...)) != want {
				t.Errorf("Right of Ino %d", ino)
			}
		}
		check(t, dir(1, entry("a", ino), entry("b", ino))) // entries may name one node
	}
}

// P10.1
func TestParseKnownTexts(t *testing.T) {
	for _, s := range []string{
		"", "\x01", "\x01\x00", "\x02\x00", "\x03\x01", "\x00\x00\x00", "\x04\x00\x00", "\xff\x00\x00x", "\x01\x02\x00", "\x01\xff\xff", "\x02\x02\x00", "\x03\x02\x00t",
		"\x03\x00\x00", "\x03\x00\x00" + strings.Repeat("t", 65), "\x01\x00\x00" + strings.Repeat("d", 4097),
		"\x02\x00\x00\x00", "\x02\x00\x00\x00\x00\x00\x00\x01", "\x02\x00\x00\x01", "\x02\x00\x00\x01a", "\x02\x00\x00\x01a\x00\x00\x00", "\x02\x00\x00\x01a\x00\x00\x00\x01\x00", "\x02\x00\x00\x01a\x00\x00\x00\x01\x01",
		"\x02\x00\x00\x01a\x00\x00\x00\x00", "\x02\x00\x00\x01a\x80\x00\x00\x00", "\x02\x00\x00\x01a\xff\xff\xff\xff", "\x02\x00\x00\x01/\x00\x00\x00\x01", "\x02\x00\x00\x02..\x00\x00\x00\x01", "\x02\x00\x00\x01.\x00\x00\x00\x01",
		"\x02\x00\x00\x01b\x00\x00\x00\x02\x01a\x00\x00\x00\x03", "\x02\x00\x00\x01a\x00\x00\x00\x02\x01a\x00\x00\x00\x03",
		"\x02\x00\x00\x11" + strings.Repeat("n", 17) + "\x00\x00\x00\x01", "\x02\x00\x00\xff" + strings.Repeat("n", 255) + "\x00\x00\x00\x01", "\x02\x00\x00\xff" + strings.Repeat("n", 254),
	} {
		if x, err := node.Parse(s); !equal(x, api.Node{}) || err != api.ErrForm {
			t.Errorf("Parse(%.40x) = %s, %d", s, short(x), err)
		}
		checkText(t, s)
	}
	x, err := node.Parse("\x02\x01\xff\x01a\x01\x02\x03\x04\x10nnnnnnnnnnnnnnnn\x7f\xff\xff\xff")
	if !equal(x, dir(511, entry("a", 0x01020304), entry("nnnnnnnnnnnnnnnn", maxIno))) || err != api.OK {
		t.Errorf("%s, %d", short(x), err)
	}
}

// P10.1, P10.3
func TestParseOfAllHeads(t *testing.T) {
	for kind := range 256 {
		for mode := range 1200 {
			head := string([]byte{byte(kind), byte(mode >> 8), byte(mode)})
			checkText(t, head)
			checkText(t, head+"\x01a\x00\x00\x00\x05")
		}
		for high := range 256 {
			checkText(t, string([]byte{byte(kind), byte(high), 0, 'x'}))
		}
	}
}

// P10.1, P10.3
func TestParseOfAllShortTexts(t *testing.T) {
	for _, rest := range texts("\x00\x01\x02a", 8) {
		for _, head := range []string{"\x01\x00\x00", "\x02\x00\x00", "\x03\x00\x00"} {
			checkText(t, head+rest)
		}
	}
	for _, s := range texts("\x00\x01\x02\x03\x04\xff", 5) {
		checkText(t, s)
	}
}

// Each text of a node, cut at each byte, each byte turned, taken out, or put in. P10.1, P10.3
func TestParseOfTurnedTexts(t *testing.T) {
	full := row(64)
	full[63].Name = strings.Repeat("z", 16)
	for _, x := range []api.Node{file(420, "data"), file(0, mixed(maxSize)), sym(511, "t"), sym(7, mixed(maxTarget)), dir(493), dir(1, row(3)...), dir(256, full...), dir(7, entry("a", 1), entry("aa", 1<<24), entry("b", maxIno))} {
		s := wantText(x)
		checkText(t, s)
		for at := range len(s) {
			checkText(t, s[:at])
			checkText(t, s[:at]+s[at+1:])
			for _, b := range []byte{0, 1, 2, 3, 4, 0x40, 0x80, 0xff} {
				turned := []byte(s)
				turned[at] ^= b
				checkText(t, string(turned))
				checkText(t, s[:at]+string([]byte{b})+s[at:])
			}
		}
		for b := range 256 {
			checkText(t, s+string([]byte{byte(b)}))
		}
	}
}

// No two texts are one node's, and no two nodes have one text. P10.3
func TestOneText(t *testing.T) {
	var all []api.Node
	for _, s := range texts("\x00\x01a", 5) {
		all = append(all, file(0, s), file(1, s), sym(0, s))
	}
	for _, a := range texts("ab", 2) {
		all = append(all, dir(0, entry(a, 1)), dir(0, entry(a, 2)), dir(1, entry(a, 2)), dir(1))
		for _, b := range texts("ab", 2) {
			all = append(all, dir(0, entry(a, 1), entry(b, 1)), dir(0, entry(a, 1), entry(b, 256)))
		}
	}
	seen := map[string]api.Node{}
	for _, x := range all {
		s, err := node.Print(x)
		if err != api.OK {
			continue
		}
		if y, ok := seen[s]; ok && !equal(x, y) {
			t.Errorf("%s and %s have one text", short(x), short(y))
		}
		seen[s] = x
	}
	if len(seen) < 1000 {
		t.Errorf("%d texts", len(seen))
	}
}

// P10.2
func TestEntries(t *testing.T) {
	full := dir(1, row(64)...)
	over := dir(1, row(70)...)
	free := dir(1, row(63)...)
	for _, x := range []api.Node{{}, dir(1), dir(1, row(1)...), dir(1, row(5)...), free, full, over, file(1, "d"), sym(1, "t")} {
		for _, name := range []string{"a", "n0", "n1000", "n1001", "n10010", "n1002", "n1004", "n1062", "n1063", "n1064", "n1069", "z", "", ".", "..", "/", "n/", "n\x00", strings.Repeat("n", 16), strings.Repeat("n", 17), strings.Repeat("z", 300)} {
			for _, ino := range []int{1, 2, maxIno, 0, -1, maxIno + 1, math.MinInt, math.MaxInt} {
				checkEntries(t, x, name, ino)
			}
		}
	}
}

// P10.2
func TestWithGoesWhereItShould(t *testing.T) {
	x := dir(493, entry("b", 2), entry("d", 3))
	for _, c := range []struct {
		name string
		want []api.Entry
	}{
		{"a", []api.Entry{{Name: "a", Ino: 9}, {Name: "b", Ino: 2}, {Name: "d", Ino: 3}}},
		{"c", []api.Entry{{Name: "b", Ino: 2}, {Name: "c", Ino: 9}, {Name: "d", Ino: 3}}},
		{"e", []api.Entry{{Name: "b", Ino: 2}, {Name: "d", Ino: 3}, {Name: "e", Ino: 9}}},
		{"bb", []api.Entry{{Name: "b", Ino: 2}, {Name: "bb", Ino: 9}, {Name: "d", Ino: 3}}},
		{"B", []api.Entry{{Name: "B", Ino: 9}, {Name: "b", Ino: 2}, {Name: "d", Ino: 3}}},
		{"\xff", []api.Entry{{Name: "b", Ino: 2}, {Name: "d", Ino: 3}, {Name: "\xff", Ino: 9}}},
	} {
		got, err := node.With(x, c.name, 9)
		if !slices.Equal(got.Entries, c.want) || got.Mode != 493 || got.Kind != api.Dir || err != api.OK || !node.Right(got) {
			t.Errorf("With(%q) = %s, %d", c.name, short(got), err)
		}
	}
}

// The first error that applies is told. P10.2
func TestOrderOfErrors(t *testing.T) {
	full := row(64)
	for _, c := range []struct {
		x             api.Node
		name          string
		with, without api.Errno
	}{
		{file(1, ""), "", api.ErrNotDir, api.ErrNotDir},
		{api.Node{Kind: api.Sym, Entries: full}, "n1000", api.ErrNotDir, api.ErrNotDir},
		{api.Node{Kind: 258, Entries: row(1)}, "n1000", api.ErrNotDir, api.ErrNotDir},
		{api.Node{Entries: full}, "new", api.ErrNotDir, api.ErrNotDir},
		{dir(1, full...), "", api.ErrName, api.ErrNone},
		{dir(1, full...), strings.Repeat("n", 17), api.ErrName, api.ErrNone},
		{dir(1, append(row(64), entry("", 5))...), "", api.ErrName, api.OK},
		{dir(1, append(row(64), entry("a/b", 5))...), "a/b", api.ErrName, api.OK},
		{dir(1, full...), "n1063", api.ErrExists, api.OK},
		{dir(1, full...), "new", api.ErrLong, api.ErrNone},
		{dir(1, row(70)...), "n1069", api.ErrExists, api.OK},
		{dir(1, row(70)...), "new", api.ErrLong, api.ErrNone},
		{dir(1, row(63)...), "new", api.OK, api.ErrNone},
	} {
		if _, err := node.With(c.x, c.name, 2); err != c.with {
			t.Errorf("With(%s, %q) = %d, want %d", short(c.x), c.name, err, c.with)
		}
		if _, err := node.Without(c.x, c.name); err != c.without {
			t.Errorf("Without(%s, %q) = %d, want %d", short(c.x), c.name, err, c.without)
		}
		checkEntries(t, c.x, c.name, 2)
	}
}

// Nodes that aren't right are asked, too: the first entry of a name counts, and all other fields stay. P10.2
func TestEntriesOfWrongNodes(t *testing.T) {
	twice := api.Node{Kind: api.Dir, Mode: -5, Data: "d", Target: "t", Entries: []api.Entry{entry("c", 7), entry("a", 8), entry("c", 9), entry("", -1), entry("b", 0)}}
	if ino, ok := node.Find(twice, "c"); ino != 7 || !ok {
		t.Errorf("Find = %d, %v", ino, ok)
	}
	if ino, ok := node.Find(twice, ""); ino != -1 || !ok {
		t.Errorf("Find of no name = %d, %v", ino, ok)
	}
	if ino, ok := node.Find(twice, "b"); ino != 0 || !ok {
		t.Errorf("Find of the Ino 0 = %d, %v", ino, ok)
	}
	less, err := node.Without(twice, "c")
	if !equal(less, api.Node{Kind: api.Dir, Mode: -5, Data: "d", Target: "t", Entries: []api.Entry{entry("a", 8), entry("c", 9), entry("", -1), entry("b", 0)}}) || err != api.OK {
		t.Errorf("Without = %s, %d", short(less), err)
	}
	more, err := node.With(twice, "bb", -3)
	if more.Entries[0] != entry("bb", -3) || more.Mode != -5 || more.Data != "d" || more.Target != "t" || len(more.Entries) != 6 || err != api.OK {
		t.Errorf("With = %s, %d", short(more), err)
	}
	names := []string{"a", "b", "c", "", ".", "/"}
	for _, kind := range someKinds {
		for _, name := range append(names, "d", "\xff", " ") {
			checkEntries(t, api.Node{Kind: kind, Mode: 1 << 20, Data: "d", Target: "t", Entries: twice.Entries}, name, 5)
		}
	}
	for _, a := range names {
		for _, b := range names {
			for _, c := range names {
				for _, name := range append(names, "aa", "d") {
					checkEntries(t, dir(1, entry(a, 2), entry(b, 3), entry(c, 4)), name, 5)
				}
			}
		}
	}
}

// P10.1
func TestSame(t *testing.T) {
	base := api.Node{Kind: 2, Mode: 7, Data: "d", Target: "t", Entries: []api.Entry{entry("a", 2), entry("b", 3)}}
	others := []api.Node{base, base, base, base, base, base, base, base, base, base, base, base, base, {}}
	others[0].Kind = 1
	others[1].Mode = 8
	others[2].Data = "e"
	others[3].Data = ""
	others[4].Target = "u"
	others[5].Target = "tt"
	others[6].Entries = nil
	others[7].Entries = base.Entries[:1]
	others[8].Entries = append(slices.Clone(base.Entries), entry("c", 4))
	others[9].Entries = []api.Entry{entry("b", 3), entry("a", 2)}
	others[10].Entries = []api.Entry{entry("a", 2), entry("b", 4)}
	others[11].Entries = []api.Entry{entry("a", 2), entry("c", 3)}
	others[12].Kind = 258
	if !node.Same(base, clone(base)) {
		t.Error("Same(x, x) = false")
	}
	for i, a := range append(others, base) {
		for j, b := range append(others, base) {
			if node.Same(a, b) != (i == j) {
				t.Errorf("Same(%s, %s) = %v", short(a), short(b), i != j)
			}
		}
	}
	for _, x := range []api.Node{{}, file(1, "x"), dir(1), sym(1, "t"), {Kind: -1}} {
		empty := x
		empty.Entries = []api.Entry{}
		if !node.Same(x, empty) || !node.Same(empty, x) || !node.Same(x, x) {
			t.Errorf("Same, of no entries, nil and not: %s", short(x))
		}
	}
}

// random: a node that is right, more often than not.
func random(r *rand.Rand) api.Node {
	x := api.Node{Kind: 1 + r.Intn(3), Mode: r.Intn(512)}
	text := func(n int) string {
		b := make([]byte, n)
		r.Read(b)
		return string(b)
	}
	switch x.Kind {
	case api.File:
		x.Data = text(r.Intn(100))
	case api.Sym:
		x.Target = text(1 + r.Intn(64))
	case api.Dir:
		held := map[string]bool{}
		for range r.Intn(66) {
			held[strconv.Itoa(r.Intn(1<<r.Intn(30)))] = true
		}
		for name := range held {
			x.Entries = append(x.Entries, entry(name, 1+r.Intn(1<<r.Intn(31))))
		}
		slices.SortFunc(x.Entries, func(a, b api.Entry) int { return strings.Compare(a.Name, b.Name) })
	}
	switch r.Intn(8) {
	case 0:
		x.Kind = r.Intn(5)
	case 1:
		x.Mode = r.Intn(2000) - 500
	case 2:
		slices.Reverse(x.Entries)
	case 3:
		x.Entries = append(x.Entries, entry(text(r.Intn(18)), r.Intn(1<<32)-5))
	}
	return x
}

// P10.1, P10.2, P10.3
func TestRandomNodes(t *testing.T) {
	r := rand.New(rand.NewSource(10))
	right := 0
	for range 20000 {
		x := random(r)
		check(t, x)
		if wantRight(x) {
			right++
		}
		name := strconv.Itoa(r.Intn(100))
		if len(x.Entries) > 0 && r.Intn(2) == 0 {
			name = x.Entries[r.Intn(len(x.Entries))].Name
		}
		checkEntries(t, x, name, r.Intn(100))
		turned := []byte(wantText(x))
		turned[r.Intn(len(turned))] = byte(r.Intn(256))
		checkText(t, string(turned))
		checkText(t, string(turned[:r.Intn(len(turned)+1)]))
	}
	if right < 8000 || right > 18000 {
		t.Errorf("%d nodes are right", right)
	}
}

// A right directory stays so, whatever right entries come and go, in whatever order. P10.2
func TestComingAndGoing(t *testing.T) {
	r := rand.New(rand.NewSource(11))
	for range 20 {
		x, held := dir(493), map[string]int{}
		for range 600 {
			name, ino := strconv.Itoa(r.Intn(90)), 1+r.Intn(maxIno)
			_, there := held[name]
			switch next, err := node.With(x, name, ino); {
			case there && err != api.ErrExists || !there && len(held) == 64 && err != api.ErrLong || !there && len(held) < 64 && err != api.OK:
				t.Fatalf("With(%s, %q) = %d", short(x), name, err)
			case err == api.OK:
				x, held[name] = next, ino
			case there:
				x, _ = node.Without(x, name)
				delete(held, name)
			}
			if !node.Right(x) || len(x.Entries) != len(held) {
				t.Fatalf("%s isn't right", short(x))
			}
		}
		for name, ino := range held {
			if got, ok := node.Find(x, name); got != ino || !ok {
				t.Errorf("Find(%q) = %d, %v", name, got, ok)
			}
		}
	}
}

// Rule 5: every call ends, however long texts and lists are.
func TestLongOnes(t *testing.T) {
	const long = 1 << 24
	for _, kind := range []string{"\x00", "\x01", "\x02", "\x03", "\xff"} {
		for _, rest := range []string{"\x00", "\x01", "\x01a\x00\x00\x00\x01", "\x00\x00\x00\x00\x01", "\xff"} {
			if x, err := node.Parse(kind + "\x00\x00" + strings.Repeat(rest, long/len(rest))); !equal(x, api.Node{}) || err != api.ErrForm {
				t.Errorf("Parse of %q %q.. = %s, %d", kind, rest, short(x), err)
			}
		}
	}
	text := strings.Repeat("n", long)
	many := make([]api.Entry, long)
	for _, kind := range someKinds {
		for _, x := range []api.Node{{Kind: kind, Data: text}, {Kind: kind, Target: text}, {Kind: kind, Entries: many}, {Kind: kind, Entries: []api.Entry{entry(text, 1), entry(text, 1)}}} {
			if s, err := node.Print(x); node.Right(x) || s != "" || err != api.ErrForm || !node.Same(x, x) {
				t.Errorf("Print(%s) = %d", short(x), err)
			}
			want := api.ErrNotDir
			if kind == api.Dir {
				want = api.ErrName
			}
			if y, err := node.With(x, text, 1); !equal(y, api.Node{}) || err != want {
				t.Errorf("With(%s) = %d", short(x), err)
			}
			if ino, ok := node.Find(x, "n"); ino != 0 || ok {
				t.Errorf("Find(%s) = %d", short(x), ino)
			}
		}
	}
}

// Rule 3: what is handed in stays, its spare room too.
func TestArgumentsStay(t *testing.T) {
	room := row(8)
	before := slices.Clone(room)
	for n := range room {
		x := dir(1, room[:n]...)
		for _, name := range []string{"a", "n1000", "n1001", "n1003", "n10015", "z"} {
			node.Find(x, name)
			node.With(x, name, 99)
			node.Without(x, name)
			node.Print(x)
			node.Same(x, x)
			if !slices.Equal(room, before) || len(x.Entries) != n {
				t.Fatalf("handed in %v, left %v", before, room)
			}
		}
	}
}

// Rule 3: no two answers share memory with each other, nor with what was handed in.
func TestAnswersAreNew(t *testing.T) {
	x := dir(1, row(5)...)
	x.Data, x.Target = "data", "target"
	text := wantText(dir(1, row(5)...))
	answers := func() []api.Node {
		a, first := node.With(x, "a", 9)
		b, second := node.With(x, "z", 9)
		c, third := node.Without(x, "n1002")
		d, fourth := node.Without(x, "n1004")
		e, fifth := node.Parse(text)
		if first != api.OK || second != api.OK || third != api.OK || fourth != api.OK || fifth != api.OK {
			t.Fatal(first, second, third, fourth, fifth)
		}
		return []api.Node{a, b, c, d, e}
	}
	for n := range 5 {
		one, two := answers(), answers()
		want := answers()
		for _, y := range one[n : n+1] {
			whole := y.Entries[:cap(y.Entries)]
			for i := range whole {
				whole[i] = entry("changed", -1)
			}
		}
		for i := range two {
			if !equal(two[i], want[i]) || i != n && !equal(one[i], want[i]) {
				t.Errorf("two answers share memory: %s", short(two[i]))
			}
		}
		if !slices.Equal(x.Entries, row(5)) {
			t.Errorf("an answer shares memory with what was handed in: %s", short(x))
		}
	}
}

// Rule 3: what is handed in isn't kept in answers.
func TestArgumentsAreNotKept(t *testing.T) {
	var handed [][]byte
	lent := func(s string) string {
		b := []byte(s)
		handed = append(handed, b)
		return unsafe.String(&b[0], len(b)) // whose memory the test may change, as no program's
	}
	x := api.Node{Kind: api.Dir, Data: lent("data"), Target: lent("target"), Entries: []api.Entry{entry(lent("first"), 2), entry(lent("second"), 3)}}
	more, _ := node.With(x, lent("new"), 4)
	less, _ := node.Without(x, lent("first"))
	var parsed []api.Node
	right := []api.Node{file(1, "data"), sym(1, "target"), dir(1, entry("first", 2))}
	for _, y := range right {
		z, _ := node.Parse(lent(wantText(y)))
		parsed = append(parsed, z)
	}
	printed, _ := node.Print(file(1, lent("some data")))
	for _, b := range handed {
		copy(b, bytes.Repeat([]byte("x"), len(b)))
	}
	wantMore := api.Node{Kind: api.Dir, Data: "data", Target: "target", Entries: []api.Entry{entry("first", 2), entry("new", 4), entry("second", 3)}}
	wantLess := api.Node{Kind: api.Dir, Data: "data", Target: "target", Entries: []api.Entry{entry("second", 3)}}
	if !equal(more, wantMore) || !equal(less, wantLess) || printed != "\x01\x00\x01some data" {
		t.Errorf("%s, %s, %q", short(more), short(less), printed)
	}
	for i, y := range right {
		if !equal(parsed[i], y) {
			t.Errorf("%s, want %s", short(parsed[i]), short(y))
		}
	}
}

func FuzzNodes(f *testing.F) {
	f.Add([]byte("\x02\x01\xed\x01a\x00\x00\x00\x02"), "b", 3)
	f.Add([]byte("\x01\x00\x00data"), "", 0)
	f.Add([]byte("\x03\x01\xfft"), "..", -1)
	f.Fuzz(func(t *testing.T, b []byte, name string, ino int) {
		s := string(b)
		checkText(t, s)
		for _, kind := range []string{"\x01\x00\x07", "\x02\x00\x07", "\x03\x00\x07"} {
			checkText(t, kind+s)
		}
		x := dir(7)
		for i := 0; i+1 < len(b); i += 2 {
			x.Entries = append(x.Entries, entry(s[i:i+1+int(b[i+1])%2], ino+int(b[i+1])))
		}
		check(t, x)
		checkEntries(t, x, name, ino)
		check(t, api.Node{Kind: ino, Mode: len(s), Data: s, Target: name})
	})
}
