package cmd_test

import (
	"fmt"
	"math"
	"math/rand"
	"strings"
	"testing"
	"unsafe"

	"snapferry/api"
	"snapferry/cmd"
)

// whole has something in all that its Kind names, and nothing else.
func whole(kind int) cmd.Cmd {
	return named(cmd.Cmd{Kind: kind, Ino: 0x01020304, Src: 0x05060708, Off: 0x090a0b0c, From: 0x0d0e0f10, N: 0x11121314, Name: "name", Data: "data"})
}

// named: without what its Kind doesn't name.
func named(c cmd.Cmd) cmd.Cmd {
	for i, null := range nulls() {
		alone := cmd.Cmd{Kind: c.Kind, Ino: 1, Src: 1, Off: 1, From: 1, N: 1, Name: "n", Data: "d"}
		for j, other := range nulls() {
			if i != j {
				other(&alone)
			}
		}
		if !wantRight(alone) {
			null(&c)
		}
	}
	return c
}

// nulls: each takes one thing away.
func nulls() []func(c *cmd.Cmd) {
	return []func(c *cmd.Cmd){
		func(c *cmd.Cmd) { c.Ino = 0 }, func(c *cmd.Cmd) { c.Src = 0 }, func(c *cmd.Cmd) { c.Off = 0 }, func(c *cmd.Cmd) { c.From = 0 },
		func(c *cmd.Cmd) { c.N = 0 }, func(c *cmd.Cmd) { c.Name = "" }, func(c *cmd.Cmd) { c.Data = "" },
	}
}

// setters: each sets one of the numbers.
func setters() []func(c *cmd.Cmd, n int) {
	return []func(c *cmd.Cmd, n int){
		func(c *cmd.Cmd, n int) { c.Ino = n }, func(c *cmd.Cmd, n int) { c.Src = n }, func(c *cmd.Cmd, n int) { c.Off = n },
		func(c *cmd.Cmd, n int) { c.From = n }, func(c *cmd.Cmd, n int) { c.N = n },
	}
}

var someKinds = []int{math.MinInt, -246, -1, 0, 1, 2, 3, 4, 5, 6, 7, 8, 9, 10, 11, 12, 255, 256, 257, 266, 1<<32 + 1, math.MaxInt}

func edgeNumbers() []int {
	l := []int{math.MinInt, math.MinInt + 1, -1 << 32, -1<<32 + 1, -1 << 31, -256, -2, -1, math.MaxInt - 1, math.MaxInt, 1 << 32, 1<<32 - 1, 1<<32 + 1, 1<<40 + 2}
	for i := range 32 {
		l = append(l, 1<<i-1, 1<<i, 1<<i+1)
	}
	return l
}

func short(c cmd.Cmd) string { return fmt.Sprintf("%.200s", fmt.Sprintf("%+v", c)) }

// check: can it be written, what is its text, and what is that parsed?
func check(t *testing.T, c cmd.Cmd) {
	t.Helper()
	want := wantRight(c)
	if cmd.Right(c) != want {
		t.Errorf("Right(%s) = %v", short(c), !want)
	}
	s, err := cmd.Print(c)
	if !want {
		if s != "" || err != api.ErrForm {
			t.Errorf("Print(%s) = %.60x, %d", short(c), s, err)
		}
		checkText(t, c.Kind, wantText(c))
		return
	}
	if s != wantText(c) || err != api.OK {
		t.Errorf("Print(%s) = %.60x, %d, want %.60x", short(c), s, err, wantText(c))
	}
	if d, err := cmd.Parse(c.Kind, s); d != c || err != api.OK {
		t.Errorf("Parse(Print(%s)) = %s, %d", short(c), short(d), err)
	}
}

// checkText: what is parsed of a text, and what is that printed?
func checkText(t *testing.T, kind int, s string) {
	t.Helper()
	want, isText := wantCmd(kind, s)
	wantErr := api.ErrForm
	if isText {
		wantErr = api.OK
	}
	c, err := cmd.Parse(kind, s)
	if c != want || err != wantErr {
		t.Errorf("Parse(%d, %d bytes %.60x) = %s, %d, want %s, %d", kind, len(s), s, short(c), err, short(want), wantErr)
		return
	}
	if again, err := cmd.Print(c); isText && (again != s || err != api.OK) {
		t.Errorf("Print(Parse(%d, %d bytes %.60x)) = %.60x, %d", kind, len(s), s, again, err)
	}
}

// P13.1
func TestKnownTexts(t *testing.T) {
	nought := strings.Repeat("\x00", 4)
	for _, x := range []struct {
		c    cmd.Cmd
		want string
	}{
		{cmd.Cmd{Kind: 1, Ino: 2}, "\x00\x00\x00\x02" + strings.Repeat(nought, 4) + "\x00"},
		{cmd.Cmd{Kind: 2, Ino: 0x7fffffff, N: 493}, "\x7f\xff\xff\xff" + nought + nought + nought + "\x00\x00\x01\xed\x00"},
		{cmd.Cmd{Kind: 3, Ino: 256, Data: "to"}, "\x00\x00\x01\x00" + strings.Repeat(nought, 4) + "\x00to"},
		{cmd.Cmd{Kind: 4, Ino: 2, Src: 1, Name: "a"}, "\x00\x00\x00\x02\x00\x00\x00\x01" + nought + nought + nought + "\x01a"},
		{cmd.Cmd{Kind: 5, Src: 0x01020304, Name: "ab"}, nought + "\x01\x02\x03\x04" + nought + nought + nought + "\x02ab"},
		{cmd.Cmd{Kind: 6, Ino: 65536, N: 0x10203}, "\x00\x01\x00\x00" + nought + nought + nought + "\x00\x01\x02\x03\x00"},
		{cmd.Cmd{Kind: 7, Ino: 2, N: 0x01000000}, "\x00\x00\x00\x02" + nought + nought + nought + "\x01\x00\x00\x00\x00"},
		{cmd.Cmd{Kind: 8, Ino: 2, Off: 0x04030201, Data: "\x00\xff"}, "\x00\x00\x00\x02" + nought + "\x04\x03\x02\x01" + nought + nought + "\x00\x00\xff"},
		{cmd.Cmd{Kind: 9, Ino: 1, Src: 2, Off: 3, From: 4, N: 5}, "\x00\x00\x00\x01\x00\x00\x00\x02\x00\x00\x00\x03\x00\x00\x00\x04\x00\x00\x00\x05\x00"},
		{cmd.Cmd{Kind: 10, Ino: 0x00800000}, "\x00\x80\x00\x00" + strings.Repeat(nought, 4) + "\x00"},
	} {
		if s, err := cmd.Print(x.c); s != x.want || err != api.OK {
			t.Errorf("Print(%s) = %x, %d, want %x", short(x.c), s, err, x.want)
		}
		if c, err := cmd.Parse(x.c.Kind, x.want); c != x.c || err != api.OK {
			t.Errorf("Parse(%d, %x) = %s, %d", x.c.Kind, x.want, short(c), err)
		}
	}
}

// Each Kind with each choice of what may be there. P13.1
func TestWhatKindsName(t *testing.T) {
	count := 0
	for _, kind := range someKinds {
		for choice := range 1 << 7 {
			c := cmd.Cmd{Kind: kind, Ino: 1, Src: 2, Off: 3, From: 4, N: 5, Name: "n", Data: "d"}
			for i, null := range nulls() {
				if choice&(1<<i) == 0 {
					null(&c)
				}
			}
			check(t, c)
			if cmd.Right(c) {
				count++
			}
		}
	}
	if want := 4 + 4 + 4 + 8 + 4 + 4 + 4 + 8 + 32 + 2; count != want { // Kind by Kind
		t.Errorf("%d can be written, want %d", count, want)
	}
}

// Kinds alone. P13.1
func TestKinds(t *testing.T) {
	for _, kind := range someKinds {
		c := cmd.Cmd{Kind: kind}
		check(t, c)
		if want := kind >= 1 && kind <= 10; cmd.Right(c) != want {
			t.Errorf("Right of the Kind %d is %v", kind, !want)
		}
		checkText(t, kind, strings.Repeat("\x00", 21))
	}
}

// Each number of each Kind, at all edges. P13.1
func TestNumbers(t *testing.T) {
	for kind := range 12 {
		for _, set := range setters() {
			for _, n := range edgeNumbers() {
				for _, c := range []cmd.Cmd{{Kind: kind}, whole(kind)} {
					set(&c, n)
					check(t, c)
				}
			}
		}
	}
	for kind := 1; kind <= 10; kind++ {
		c := whole(kind)
		if !cmd.Right(c) || c == (cmd.Cmd{Kind: kind}) {
			t.Errorf("%s", short(c))
		}
		check(t, c)
	}
}

// P13.1
func TestLengths(t *testing.T) {
	names := []int{0, 1, 2, 14, 15, 16, 17, 18, 32, 255, 256, 257, 272, 512}
	data := []int{0, 1, 15, 16, 17, 63, 64, 65, 255, 256, 4094, 4095, 4096, 4097, 4098, 8192, 65536, 1 << 20}
	for kind := range 12 {
		for _, n := range names {
			check(t, cmd.Cmd{Kind: kind, Name: mixed(n)})
			check(t, cmd.Cmd{Kind: kind, Name: strings.Repeat("\x00", n)})
			c := whole(kind)
			c.Name = mixed(n)
			check(t, c)
		}
		for _, n := range data {
			check(t, cmd.Cmd{Kind: kind, Data: mixed(n)})
			check(t, cmd.Cmd{Kind: kind, Data: strings.Repeat("\x00", n)})
			c := whole(kind)
			c.Data = mixed(n)
			check(t, c)
		}
	}
	for kind, c := range map[int]cmd.Cmd{4: {Name: mixed(16)}, 5: {Name: mixed(16)}, 3: {Data: mixed(4096)}, 8: {Data: mixed(4096)}} {
		c.Kind = kind
		if !cmd.Right(c) {
			t.Errorf("Right(%s) = false", short(c))
		}
	}
}

// Names that are none of layer 9 can be written. P13.1
func TestNamesOfAnyBytes(t *testing.T) {
	for b := range 256 {
		for _, kind := range []int{enter, leave} {
			check(t, cmd.Cmd{Kind: kind, Name: string([]byte{byte(b)})})
			check(t, cmd.Cmd{Kind: kind, Name: string([]byte{'.', byte(b), '/'})})
		}
		for _, kind := range []int{mkSym, write} {
			check(t, cmd.Cmd{Kind: kind, Data: string([]byte{byte(b)})})
			check(t, cmd.Cmd{Kind: kind, Data: string([]byte{16, byte(b), 0})})
		}
	}
}

// P13.1
func TestParseShortTexts(t *testing.T) {
	for _, kind := range someKinds {
		for n := range 64 {
			for _, b := range []string{"\x00", "\x01", "\x10", "\x11", "\x7f", "\x80", "\xff"} {
				checkText(t, kind, strings.Repeat(b, n))
			}
		}
	}
}

// Each beginning of a text, and the text with something behind it. P13.1
func TestParseCutTexts(t *testing.T) {
	for kind := 1; kind <= 10; kind++ {
		s := wantText(whole(kind))
		for n := range len(s) {
			checkText(t, kind, s[:n])
			checkText(t, kind, s[n:])
		}
		for _, more := range []string{"\x00", "x", mixed(4092), mixed(4093), mixed(4096), mixed(4097), mixed(1 << 16)} {
			checkText(t, kind, s+more)
			checkText(t, kind, more+s)
		}
	}
}

// Each byte of a text turned to each other one; each text under each Kind. P13.1
func TestParseTurnedTexts(t *testing.T) {
	for kind := 1; kind <= 10; kind++ {
		s := wantText(whole(kind))
		for i := range len(s) {
			for b := range 256 {
				checkText(t, kind, s[:i]+string([]byte{byte(b)})+s[i+1:])
			}
		}
		for _, other := range someKinds {
			checkText(t, other, s)
		}
	}
}

// Each length of a name that a text tells, with less, as much and more behind it. P13.1
func TestParseNameLengths(t *testing.T) {
	for size := range 256 {
		for _, n := range []int{0, 1, size - 1, size, size + 1, size + 2, 4096, 4096 + size, 4097 + size} {
			for kind := range 12 {
				checkText(t, kind, strings.Repeat("\x00", 20)+string([]byte{byte(size)})+mixed(max(n, 0)))
			}
		}
	}
}

// P13.1, P13.3
func TestRandomTexts(t *testing.T) {
	r := rand.New(rand.NewSource(13))
	for range 20000 {
		c := cmd.Cmd{Kind: r.Intn(12), Name: mixed(r.Intn(18)), Data: mixed(r.Intn(40))}
		for _, set := range setters() {
			set(&c, r.Intn(1<<uint(1+r.Intn(31))))
		}
		if r.Intn(10) > 0 {
			c = named(c)
		}
		check(t, c)
		b := []byte(wantText(c))
		for range r.Intn(3) {
			b[r.Intn(len(b))] = byte(r.Intn(256))
		}
		checkText(t, c.Kind, string(b))
	}
}

// Rule 3: answers are new memory.
func TestTextsAreNew(t *testing.T) {
	for _, c := range []cmd.Cmd{{Kind: 5, Src: 1, Name: "a name"}, {Kind: 8, Ino: 2, Data: "some bytes"}, {Kind: 3, Ino: 2, Data: "x"}} {
		b := []byte(wantText(c))
		s := unsafe.String(&b[0], len(b)) // whose memory the test may change, as no program's
		got, err := cmd.Parse(c.Kind, s)
		clear(b)
		if got != c || err != api.OK {
			t.Errorf("%s, %d, want %s", short(got), err, short(c))
		}
		b = []byte(c.Name + c.Data)
		d := c
		if d.Name != "" {
			d.Name = unsafe.String(&b[0], len(b))
		} else {
			d.Data = unsafe.String(&b[0], len(b))
		}
		text, err := cmd.Print(d)
		clear(b)
		if text != wantText(c) || err != api.OK {
			t.Errorf("%x, %d, want %x", text, err, wantText(c))
		}
	}
}
