package wire_test

import (
	"math"
	"math/rand"
	"slices"
	"strings"
	"testing"
	"unsafe"

	"snapferry/api"
	"snapferry/cmd"
	"snapferry/wire"
)

// mixed is a text without a short period.
func mixed(n int) string {
	b := make([]byte, n)
	for i := range b {
		b[i] = byte(i*i + 31*i + i>>8)
	}
	return string(b)
}

func someHead() wire.Head {
	return wire.Head{Parent: mixed(40)[:32], Child: mixed(100)[68:], Next: 0x01020304}
}

// everyKind is a command of each Kind, with something in all that it names.
func everyKind() []cmd.Cmd {
	return []cmd.Cmd{
		{Kind: 1, Ino: 0x01020304, N: 420},
		{Kind: 2, Ino: 0x7fffffff, N: 0x7fffffff},
		{Kind: 3, Ino: 3, Data: "to"},
		{Kind: 4, Ino: 4, Src: 1, Name: "0123456789abcdef"},
		{Kind: 5, Src: 1, Name: "\x00/"},
		{Kind: 6, Ino: 256, N: 511},
		{Kind: 7, Ino: 65536, N: 4096},
		{Kind: 8, Ino: 2, Off: 0x00ff00ff, Data: mixed(300)},
		{Kind: 9, Ino: 1, Src: 2, Off: 3, From: 4, N: 5},
		{Kind: 10, Ino: 9},
	}
}

// sized is commands whose stream has so many bytes, 500 at least.
func sized(bytes int) []cmd.Cmd {
	var l []cmd.Cmd
	left := bytes - headBytes - endBytes
	for left > 0 {
		n := min(left-bareCmd, 4096)
		if rest := left - bareCmd - n; rest > 0 && rest < bareCmd {
			n -= bareCmd
		}
		l = append(l, cmd.Cmd{Kind: 8, Ino: 2, Off: len(l), Data: mixed(n)})
		left -= bareCmd + n
	}
	return l
}

func randomCmd(rng *rand.Rand) cmd.Cmd {
	c := everyKind()[rng.Intn(10)]
	if c.Ino > 0 {
		c.Ino = rng.Intn(1 << 31)
	}
	if c.Name != "" {
		c.Name = mixed(rng.Intn(17))
	}
	if c.Data != "" {
		c.Data = mixed(rng.Intn(60))
	}
	return c
}

func randomStream(rng *rand.Rand) (wire.Head, []cmd.Cmd) {
	h := someHead()
	h.Next = 2 + rng.Intn(1<<31-2)
	var l []cmd.Cmd
	for range rng.Intn(12) {
		l = append(l, randomCmd(rng))
	}
	return h, l
}

// The chapter's example, byte by byte. P15.1
func TestStreamOfNoCommands(t *testing.T) {
	h := wire.Head{Parent: strings.Repeat("p", 32), Child: strings.Repeat("c", 32), Next: 2}
	first := seal("\x01\x00\x00\x00\x00\x00\x48SNP1pppppppppppppppppppppppppppppppp" + "cccccccccccccccccccccccccccccccc\x00\x00\x00\x02")
	second := seal("\x02\x00\x00\x00\x01\x00\x20" + sum(first))
	if s, err := wire.Encode(h, nil); s != first+second || err != api.OK {
		t.Errorf("%x, %d, want %x", s, err, first+second)
	}
	if len(first) != headBytes || len(second) != endBytes {
		t.Error(len(first), len(second))
	}
	checkDecoded(t, first+second, h, nil)
	checkEncode(t, h, []cmd.Cmd{}, api.OK)
	checkPieces(t, first, second)
}

// P15.1
func TestKnownCommands(t *testing.T) {
	h := someHead()
	nought := strings.Repeat("\x00", 4)
	first := seal("\x01\x00\x00\x00\x00\x00\x48SNP1" + h.Parent + h.Child + "\x01\x02\x03\x04")
	for _, x := range []struct {
		c    cmd.Cmd
		want string
	}{
		{cmd.Cmd{Kind: 1, Ino: 2, N: 420}, "\x0b\x00\x00\x00\x01\x00\x15\x00\x00\x00\x02" + nought + nought + nought + "\x00\x00\x01\xa4\x00"},
		{cmd.Cmd{Kind: 3, Ino: 2, Data: "to"}, "\x0d\x00\x00\x00\x01\x00\x17\x00\x00\x00\x02" + nought + nought + nought + nought + "\x00to"},
		{cmd.Cmd{Kind: 5, Src: 1, Name: "a"}, "\x0f\x00\x00\x00\x01\x00\x16" + nought + "\x00\x00\x00\x01" + nought + nought + nought + "\x01a"},
		{cmd.Cmd{Kind: 10, Ino: 2}, "\x14\x00\x00\x00\x01\x00\x15\x00\x00\x00\x02" + nought + nought + nought + nought + "\x00"},
	} {
		second := seal(x.want)
		want := first + second + seal("\x02\x00\x00\x00\x02\x00\x20"+sum(first+second))
		if s, err := wire.Encode(h, []cmd.Cmd{x.c}); s != want || err != api.OK {
			t.Errorf("%+v: %x, %d, want %x", x.c, s, err, want)
		}
		checkDecoded(t, want, h, []cmd.Cmd{x.c})
	}
}

// P15.1, P15.4
func TestThereAndBack(t *testing.T) {
	h := someHead()
	all := everyKind()
	checkEncode(t, h, all, api.OK)
	for i := range all {
		checkEncode(t, h, all[i:], api.OK)
		checkEncode(t, h, all[:i], api.OK)
		checkEncode(t, h, []cmd.Cmd{all[i], all[i]}, api.OK)
	}
	rng := rand.New(rand.NewSource(15))
	for range 300 {
		h, l := randomStream(rng)
		checkEncode(t, h, l, api.OK)
	}
	many := slices.Repeat([]cmd.Cmd{{Kind: 10, Ino: 2}}, 1500) // numbers of more than one byte
	checkEncode(t, h, many, api.OK)
}

// P15.1
func TestHeadsThatAreNone(t *testing.T) {
	for _, n := range []int{0, 1, 16, 31, 32, 33, 64, 65536, 1 << 20} {
		want := api.ErrForm
		if n == 32 {
			want = api.OK
		}
		checkEncode(t, wire.Head{Parent: mixed(n), Child: mixed(32), Next: 3}, everyKind(), want)
		checkEncode(t, wire.Head{Parent: mixed(32), Child: mixed(n), Next: 3}, nil, want)
	}
	checkEncode(t, wire.Head{Parent: mixed(31), Child: mixed(33), Next: 3}, nil, api.ErrForm)
	checkEncode(t, wire.Head{Parent: "", Child: mixed(64), Next: 3}, nil, api.ErrForm)
	for _, next := range []int{math.MinInt, math.MinInt32, -1 << 31, -2, -1, 0, 1, 1 << 31, 1<<31 + 2, 1<<32 - 1, 1 << 32, 1<<32 + 2, 1<<40 + 5, math.MaxInt} {
		checkEncode(t, wire.Head{Parent: mixed(32), Child: mixed(32), Next: next}, nil, api.ErrForm)
	}
	for _, next := range []int{2, 3, 255, 256, 65535, 65536, 1 << 24, 0x01020304, 1<<31 - 2, 1<<31 - 1} {
		checkEncode(t, wire.Head{Parent: mixed(32), Child: mixed(32), Next: next}, everyKind(), api.OK)
	}
	checkEncode(t, wire.Head{}, nil, api.ErrForm)
}

// wrongCmds can't be written.
func wrongCmds() []cmd.Cmd {
	return []cmd.Cmd{
		{}, {Kind: -1}, {Kind: 11, Ino: 2}, {Kind: 246}, {Kind: 257, Ino: 2}, {Kind: math.MinInt}, {Kind: math.MaxInt},
		{Kind: 1, Ino: -1}, {Kind: 1, Ino: 1 << 31}, {Kind: 1, Ino: 2, Data: "d"}, {Kind: 8, Ino: 2, Data: mixed(4097)},
		{Kind: 8, Ino: 2, Data: mixed(70000)}, {Kind: 4, Ino: 2, Src: 1, Name: mixed(17)}, {Kind: 10, Ino: 2, N: 1}, {Kind: 9, Off: -1}, {Kind: 6, Ino: 2, N: math.MaxInt},
	}
}

// P15.1
func TestCommandsThatCantBeWritten(t *testing.T) {
	for _, c := range wrongCmds() {
		checkEncode(t, someHead(), []cmd.Cmd{c}, api.ErrForm)
		for i := range 11 {
			checkEncode(t, someHead(), slices.Insert(everyKind(), i, c), api.ErrForm)
		}
	}
}

// P15.1
func TestLongestStream(t *testing.T) {
	for _, n := range []int{500, 4000, 5000, 65534, 65535, longest} {
		l := sized(n)
		if s := wantStream(someHead(), l); len(s) != n {
			t.Fatal(n, len(s))
		}
		checkEncode(t, someHead(), l, api.OK)
	}
	// From 65537 + 43 on it is too long without the end.
	for _, n := range []int{65537, 65538, longest + endBytes - 1, longest + endBytes, longest + endBytes + 1, 66000, 70000, 1 << 20} {
		l := sized(n)
		if s := wantStream(someHead(), l); len(s) != n {
			t.Fatal(n, len(s))
		}
		checkEncode(t, someHead(), l, api.ErrLong)
		checkDecodeErr(t, wantStream(someHead(), l), api.ErrLong)
	}
	checkEncode(t, someHead(), slices.Repeat([]cmd.Cmd{{Kind: 10, Ino: 2}}, 1<<20), api.ErrLong)
}

// What can't be written is told ahead of what is too long. P15.1
func TestEncodeOrderOfErrors(t *testing.T) {
	long := sized(70000)
	for _, c := range wrongCmds() {
		for _, i := range []int{0, 1, len(long)} {
			checkEncode(t, someHead(), slices.Insert(slices.Clone(long), i, c), api.ErrForm)
		}
	}
	checkEncode(t, wire.Head{}, long, api.ErrForm)
	checkEncode(t, wire.Head{Parent: mixed(32), Child: mixed(32), Next: 1}, long, api.ErrForm)
	checkEncode(t, someHead(), long, api.ErrLong)
}

// What is handed in isn't changed, nor what stands behind it. P15.1
func TestEncodeChangesNothing(t *testing.T) {
	room := append(everyKind(), everyKind()...)
	l := room[:10]
	for range 2 {
		checkEncode(t, someHead(), l, api.OK)
		if !slices.Equal(room, append(everyKind(), everyKind()...)) {
			t.Error("commands were changed")
		}
	}
}

// within: does a text lie in another one's memory?
func within(part, whole string) bool {
	if part == "" || whole == "" {
		return false
	}
	from := uintptr(unsafe.Pointer(unsafe.StringData(whole)))
	at := uintptr(unsafe.Pointer(unsafe.StringData(part)))
	return at >= from && at < from+uintptr(len(whole))
}

// Answers are new memory. P15.1, P15.2
func TestAnswersAreNewMemory(t *testing.T) {
	s, _ := wire.Encode(someHead(), everyKind())
	h, l, _ := wire.Decode(s)
	texts := []string{h.Parent, h.Child}
	for _, c := range l {
		texts = append(texts, c.Name, c.Data)
	}
	steps, _ := wire.New().Feed(s)
	for _, step := range steps {
		texts = append(texts, step.Head.Parent, step.Head.Child, step.Cmd.Name, step.Cmd.Data)
	}
	for _, text := range texts {
		if within(text, s) {
			t.Errorf("%q is the stream's own memory", text)
		}
	}
}

// A list that was told is the asker's own. P15.2
func TestToldStepsAreOnesOwn(t *testing.T) {
	p := wantParts(someHead(), everyKind())
	r := wire.New()
	first, _ := r.Feed(p[0] + p[1])
	_ = append(first, first...)
	for i := range first {
		first[i] = wire.Step{What: 9}
	}
	second, err := r.Feed(strings.Join(p[2:], ""))
	checkSteps(t, "behind a list that was changed", second, err, wantSteps(someHead(), everyKind())[2:], api.OK)
	_, l, _ := wire.Decode(wantStream(someHead(), everyKind()))
	l[0] = cmd.Cmd{}
	checkDecoded(t, wantStream(someHead(), everyKind()), someHead(), everyKind())
}
