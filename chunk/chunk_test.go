package chunk_test

import (
	"crypto/sha256"
	"encoding/hex"
	"math"
	"slices"
	"strconv"
	"strings"
	"testing"
	"unsafe"

	"snapferry/api"
	"snapferry/chunk"
)

const (
	size  = 16
	most  = 4096
	digit = "0123456789abcdef" // a chunk
)

func noughts(n int) string { return strings.Repeat("\x00", n) }

// mixed is a file of so many bytes without a short period, of which no chunk is noughts alone.
func mixed(n int) string {
	b := make([]byte, n)
	for i := range b {
		b[i] = byte(1 + (i*i+31*i+i>>8)%255)
	}
	return string(b)
}

// sparse is one of which every other chunk, by so many, is noughts alone.
func sparse(n, every int) string {
	b := []byte(mixed(n))
	for i := range b {
		if i/size%every == 0 {
			b[i] = 0
		}
	}
	return string(b)
}

// lengths are those of files around a chunk's and a file's bounds.
func lengths() []int {
	l := []int{255, 256, 257, 1000, most - 17, most - 16, most - 15, most - 1, most}
	for n := range 70 {
		l = append(l, n)
	}
	return l
}

func wantName(s string) string {
	for i := range len(s) {
		if s[i] != 0 {
			d := sha256.Sum256([]byte(s))
			return string(d[:])
		}
	}
	return ""
}

// wantPut goes byte by byte.
func wantPut(s string, off int, data string) string {
	if data == "" {
		return s
	}
	var b []byte
	for i := 0; i < len(s) || i < off+len(data); i++ {
		switch {
		case i >= off && i < off+len(data):
			b = append(b, data[i-off])
		case i < len(s):
			b = append(b, s[i])
		default:
			b = append(b, 0)
		}
	}
	return string(b)
}

// short is a text, told in a few bytes.
func short(s string) string {
	return strconv.Itoa(len(s)) + " bytes " + strconv.Quote(s[:min(len(s), 60)])
}

func checkBytes(t *testing.T, what string, got string, err api.Errno, want string) {
	t.Helper()
	if got != want || err != api.OK {
		t.Errorf("%s = %s, %d, want %s", what, short(got), err, short(want))
	}
}

func checkRefused(t *testing.T, what string, got string, err, want api.Errno) {
	t.Helper()
	if got != "" || err != want {
		t.Errorf("%s = %s, %d, want nothing, %d", what, short(got), err, want)
	}
}

func call(name string, numbers ...int) string {
	for i, n := range numbers {
		name += string(" ,"[min(i, 1)]) + strconv.Itoa(n)
	}
	return name
}

func checkPut(t *testing.T, s string, off int, data, want string) {
	t.Helper()
	got, err := chunk.Put(s, off, data)
	checkBytes(t, call("Put of "+short(data)+" to", off), got, err, want)
}

func checkNoPut(t *testing.T, s string, off int, data string, want api.Errno) {
	t.Helper()
	got, err := chunk.Put(s, off, data)
	checkRefused(t, call("Put of "+short(data)+" to", off), got, err, want)
}

func checkTrunc(t *testing.T, s string, n int, want string) {
	t.Helper()
	got, err := chunk.Trunc(s, n)
	checkBytes(t, call("Trunc of "+short(s)+" to", n), got, err, want)
}

func checkGet(t *testing.T, s string, off, n int, want string) {
	t.Helper()
	got, err := chunk.Get(s, off, n)
	checkBytes(t, call("Get of "+short(s), off, n), got, err, want)
}

func checkCopy(t *testing.T, s string, off int, src string, from, n int, want string) {
	t.Helper()
	got, err := chunk.Copy(s, off, src, from, n)
	checkBytes(t, call("Copy of "+short(src)+" to "+short(s), off, from, n), got, err, want)
}

func checkNoCopy(t *testing.T, s string, off int, src string, from, n int, want api.Errno) {
	t.Helper()
	got, err := chunk.Copy(s, off, src, from, n)
	checkRefused(t, call("Copy of "+short(src)+" to "+short(s), off, from, n), got, err, want)
}

// known is what gets the chunks of such names.
func known(chunks map[string]string) func(string) (string, bool) {
	return func(name string) (string, bool) {
		c, ok := chunks[name]
		return c, ok
	}
}

func checkFill(t *testing.T, names []string, n int, chunks map[string]string, want string) {
	t.Helper()
	got, err := chunk.Fill(names, n, known(chunks))
	checkBytes(t, call("Fill of "+strconv.Itoa(len(names))+" names,", n), got, err, want)
}

func checkNoFill(t *testing.T, names []string, n int, chunks map[string]string, want api.Errno) {
	t.Helper()
	got, err := chunk.Fill(names, n, known(chunks))
	checkRefused(t, call("Fill of "+strconv.Itoa(len(names))+" names,", n), got, err, want)
}

// The chapter's example. P6.1
func TestChaptersExample(t *testing.T) {
	checkPut(t, "ab", 4, "c", "ab\x00\x00c")
}

// P6.1
func TestCutKnownChunks(t *testing.T) {
	for _, c := range []struct {
		s    string
		want []string
	}{
		{"", nil},
		{"a", []string{"a"}},
		{"\x00", []string{"\x00"}},
		{digit[:15], []string{digit[:15]}},
		{digit, []string{digit}},
		{digit + "x", []string{digit, "x"}},
		{digit + digit, []string{digit, digit}},
		{digit + noughts(17), []string{digit, noughts(16), "\x00"}},
		{noughts(8) + digit, []string{noughts(8) + digit[:8], digit[8:]}},
	} {
		if got := chunk.Cut(c.s); !slices.Equal(got, c.want) {
			t.Errorf("Cut(%q) = %q, want %q", c.s, got, c.want)
		}
	}
}

// P6.1
func TestCutOfAllLengths(t *testing.T) {
	for _, n := range append(lengths(), most+1, 1<<16, 1<<20+3) {
		s := mixed(n)
		chunks := chunk.Cut(s)
		if strings.Join(chunks, "") != s || len(chunks) != (n+15)/16 {
			t.Errorf("Cut of %d bytes: %d chunks", n, len(chunks))
		}
		for i, c := range chunks {
			if len(c) > size || len(c) == 0 || len(c) < size && i < len(chunks)-1 {
				t.Errorf("Cut of %d bytes: the chunk %d has %d", n, i, len(c))
			}
		}
	}
}

// P6.1
func TestNameKnownAnswers(t *testing.T) {
	for s, want := range map[string]string{
		"a":   "ca978112ca1bbdcafac231b39a23dc4da786eff8147c4e72b9807785afee48bb",
		"abc": "ba7816bf8f01cfea414140de5dae2223b00361a396177a9cb410ff61f20015ad",
		digit: "9f9f5111f7b27a781f1f1ddde5ebc2dd2b796bfc7365c9c28b548e564176929f",
	} {
		if got := chunk.Name(s); hex.EncodeToString([]byte(got)) != want {
			t.Errorf("Name(%q) = %x, want %s", s, got, want)
		}
	}
}

// P6.1
func TestNameOfNoughts(t *testing.T) {
	for n := range size + 1 {
		if got := chunk.Name(noughts(n)); got != "" {
			t.Errorf("Name of %d noughts = %x", n, got)
		}
		for at := range n {
			for _, b := range []byte{1, 128, 255, '0', ' '} {
				s := noughts(at) + string([]byte{b}) + noughts(n-at-1)
				if got := chunk.Name(s); got != wantName(s) || len(got) != 32 {
					t.Errorf("Name(%q) = %x", s, got)
				}
			}
		}
	}
}

// P6.1
func TestNames(t *testing.T) {
	for _, n := range lengths() {
		for _, s := range []string{mixed(n), noughts(n), sparse(n, 2), sparse(n, 3), noughts(n/2) + mixed(n-n/2)} {
			var want []string
			for from := 0; from < n; from += size {
				want = append(want, wantName(s[from:min(from+size, n)]))
			}
			if got := chunk.Names(s); !slices.Equal(got, want) {
				t.Errorf("Names of %s: %d, want %d", short(s), len(got), len(want))
			}
		}
	}
	if got := chunk.Names(digit + "a" + noughts(31) + "a"); len(got) != 4 || got[0] != wantName(digit) || got[1] != wantName("a"+noughts(15)) || got[2] != "" || got[3] != wantName("a") {
		t.Errorf("Names = %x", got)
	}
}

// P6.1
func TestPutKnownAnswers(t *testing.T) {
	for _, c := range []struct {
		s    string
		off  int
		data string
		want string
	}{
		{"", 0, "", ""},
		{"", 0, "a", "a"},
		{"", 2, "a", "\x00\x00a"},
		{"abc", 0, "x", "xbc"},
		{"abc", 1, "x", "axc"},
		{"abc", 2, "x", "abx"},
		{"abc", 3, "x", "abcx"},
		{"abc", 4, "x", "abc\x00x"},
		{"abc", 0, "xyz", "xyz"},
		{"abc", 0, "wxyz", "wxyz"},
		{"abc", 1, "xyz", "axyz"},
		{"abc", 1, "\x00", "a\x00c"},
		{"abc", 3, "\x00\x00", "abc\x00\x00"},
		{"abc\x00", 1, "x", "axc\x00"},
		// no data: s, and nothing is filled up
		{"abc", 0, "", "abc"},
		{"abc", 3, "", "abc"},
		{"abc", 9, "", "abc"},
		{"abc", most, "", "abc"},
	} {
		checkPut(t, c.s, c.off, c.data, c.want)
	}
}

// P6.1
func TestPutAtTheBounds(t *testing.T) {
	full := mixed(most)
	checkPut(t, "", 0, full, full)
	checkPut(t, full, 0, noughts(most), noughts(most))
	checkPut(t, full, most-1, "x", full[:most-1]+"x")
	checkPut(t, "", most-1, "x", noughts(most-1)+"x")
	checkPut(t, "ab", most-2, "xy", "ab"+noughts(most-4)+"xy")
	checkPut(t, full, most, "", full)
	checkPut(t, "", most, "", "")
	checkPut(t, full, 0, "", full)
}

// P6.1
func TestPutRefused(t *testing.T) {
	long := mixed(most + 1)
	for _, s := range []string{"", "abc", mixed(most)} {
		for _, off := range []int{-1, -2, -most, math.MinInt32, math.MinInt} {
			for _, data := range []string{"", "x", "xy", long} {
				checkNoPut(t, s, off, data, api.ErrRange)
			}
		}
		for _, off := range []int{most + 1, most + 2, 1 << 31, 1 << 32, 1<<32 + 1, math.MaxInt - 1, math.MaxInt} {
			for _, data := range []string{"", "x", "xy", long} {
				checkNoPut(t, s, off, data, api.ErrLong)
			}
		}
		checkNoPut(t, s, most, "x", api.ErrLong)
		checkNoPut(t, s, most-1, "xy", api.ErrLong)
		checkNoPut(t, s, 1, long[:most], api.ErrLong)
		checkNoPut(t, s, 0, long, api.ErrLong)
		checkNoPut(t, s, 0, long+long, api.ErrLong)
	}
}

// P6.1
func TestPutByteByByte(t *testing.T) {
	for n := range 20 {
		for off := range 24 {
			for d := range 20 {
				s, data := mixed(n), mixed(40)[20:20+d]
				checkPut(t, s, off, data, wantPut(s, off, data))
			}
		}
	}
}

// P6.1
func TestTrunc(t *testing.T) {
	for _, c := range []struct {
		s    string
		n    int
		want string
	}{
		{"", 0, ""},
		{"", 3, "\x00\x00\x00"},
		{"abc", 0, ""},
		{"abc", 1, "a"},
		{"abc", 3, "abc"},
		{"abc", 5, "abc\x00\x00"},
		{"a\x00\x00", 2, "a\x00"},
	} {
		checkTrunc(t, c.s, c.n, c.want)
	}
	for _, n := range lengths() {
		checkTrunc(t, mixed(most), n, mixed(most)[:n])
		checkTrunc(t, mixed(n), most, mixed(n)+noughts(most-n))
		checkTrunc(t, mixed(n), n, mixed(n))
		checkTrunc(t, "", n, noughts(n))
	}
}

// P6.1
func TestTruncRefused(t *testing.T) {
	for _, s := range []string{"", "abc", mixed(most)} {
		for _, n := range []int{-1, -most, math.MinInt32, math.MinInt} {
			got, err := chunk.Trunc(s, n)
			checkRefused(t, call("Trunc", n), got, err, api.ErrRange)
		}
		for _, n := range []int{most + 1, 1 << 31, 1 << 32, math.MaxInt} {
			got, err := chunk.Trunc(s, n)
			checkRefused(t, call("Trunc", n), got, err, api.ErrLong)
		}
	}
}

// P6.2
func TestGet(t *testing.T) {
	for _, c := range []struct {
		off, n int
		want   string
	}{
		{0, 0, ""}, {0, 1, "a"}, {0, 3, "abc"}, {0, 4, "abc"}, {1, 1, "b"}, {1, 2, "bc"}, {1, 3, "bc"}, {2, 1, "c"}, {2, 0, ""}, {3, 0, ""}, {3, 1, ""}, {4, 1, ""},
		{0, math.MaxInt, "abc"}, {2, math.MaxInt, "c"}, {math.MaxInt, 0, ""}, {math.MaxInt, math.MaxInt, ""}, {math.MaxInt, 1, ""}, {0, 1 << 32, "abc"}, {1 << 32, 1, ""}, {most, 1, ""},
	} {
		checkGet(t, "abc", c.off, c.n, c.want)
		checkGet(t, "", c.off, c.n, "")
	}
	full := mixed(most)
	for _, n := range lengths() {
		checkGet(t, full, 0, n, full[:n])
		checkGet(t, full, n, most, full[n:])
		checkGet(t, full, most-n, n, full[most-n:])
		checkGet(t, full, n/2, n/2, full[n/2:n/2+n/2])
	}
	checkGet(t, full+"xyz", most, 2, "xy")
	for _, c := range [][2]int{{-1, 0}, {0, -1}, {-1, -1}, {-1, 2}, {1, -1}, {9, -1}, {math.MinInt, 1}, {1, math.MinInt}, {math.MinInt, math.MaxInt}, {math.MaxInt, math.MinInt}, {math.MinInt32, 0}} {
		for _, s := range []string{"", "abc", full} {
			got, err := chunk.Get(s, c[0], c[1])
			checkRefused(t, call("Get", c[0], c[1]), got, err, api.ErrRange)
		}
	}
}

// P6.2
func TestCopyKnownAnswers(t *testing.T) {
	for _, c := range []struct {
		off, from, n int
		want         string
	}{
		{0, 0, 3, "abc"}, {0, 0, 1, "ayz"}, {1, 2, 1, "xcz"}, {2, 1, 2, "xybc"}, {3, 0, 3, "xyzabc"}, {5, 1, 1, "xyz\x00\x00b"}, {0, 0, 0, "xyz"}, {9, 3, 0, "xyz"}, {most, 0, 0, "xyz"}, {most - 1, 0, 1, "xyz" + noughts(most-4) + "a"},
	} {
		checkCopy(t, "xyz", c.off, "abc", c.from, c.n, c.want)
	}
	full := mixed(most)
	checkCopy(t, "", 0, full, 0, most, full)
	checkCopy(t, full, 0, full, 1, most-1, full[1:]+full[most-1:])
	checkCopy(t, full, 1, full, 0, most-1, full[:1]+full[:most-1])
	checkCopy(t, "", 0, "", 0, 0, "")
	checkCopy(t, "xyz", 0, full+digit, most, size, digit) // more than a file has
	for n := range 20 {
		for off := range 5 {
			for from := range n + 1 {
				src := mixed(n)
				checkCopy(t, digit, off, src, from, n-from, wantPut(digit, off, src[from:]))
			}
		}
	}
}

// What src hasn't is told ahead of what Put says. P6.2
func TestCopyRefused(t *testing.T) {
	for _, off := range []int{0, 1, -1, most, most + 1, math.MaxInt, math.MinInt} {
		for _, c := range [][2]int{{-1, 0}, {-1, 1}, {-1, 4}, {0, -1}, {1, -1}, {3, -1}, {4, -1}, {-1, -1}, {0, 4}, {1, 3}, {3, 1}, {4, 0}, {0, math.MaxInt}, {math.MaxInt, 0}, {math.MaxInt, 1}, {1, math.MaxInt}, {math.MaxInt, math.MaxInt}, {math.MinInt, 0}, {0, math.MinInt}, {math.MinInt, math.MinInt}, {math.MaxInt, math.MinInt}, {math.MinInt, math.MaxInt}, {1 << 32, 0}, {0, 1<<32 + 1}} {
			checkNoCopy(t, "xyz", off, "abc", c[0], c[1], api.ErrRange)
		}
	}
	for _, c := range [][2]int{{0, 1}, {1, 0}, {1, 1}} {
		checkNoCopy(t, "xyz", 0, "", c[0], c[1], api.ErrRange)
	}
}

// P6.2
func TestCopyRefusedByPut(t *testing.T) {
	for _, off := range []int{-1, math.MinInt} {
		checkNoCopy(t, "xyz", off, "abc", 0, 3, api.ErrRange)
		checkNoCopy(t, "xyz", off, "abc", 3, 0, api.ErrRange)
	}
	for _, off := range []int{most + 1, 1 << 32, math.MaxInt} {
		checkNoCopy(t, "xyz", off, "abc", 0, 3, api.ErrLong)
		checkNoCopy(t, "xyz", off, "abc", 3, 0, api.ErrLong)
	}
	checkNoCopy(t, "xyz", most, "abc", 1, 1, api.ErrLong)
	checkNoCopy(t, "xyz", most-1, "abc", 0, 2, api.ErrLong)
	checkNoCopy(t, "", 1, mixed(most), 0, most, api.ErrLong)
	checkNoCopy(t, "", 0, mixed(most+1), 0, most+1, api.ErrLong)
}

// P6.3
func TestFillKnownAnswers(t *testing.T) {
	chunks := map[string]string{"a": digit, "b": "x", "c": noughts(16), "d": mixed(15)}
	for _, c := range []struct {
		names []string
		n     int
		want  string
	}{
		{nil, 0, ""},
		{[]string{}, 0, ""},
		{[]string{"b"}, 1, "x"},
		{[]string{""}, 1, "\x00"},
		{[]string{""}, 16, noughts(16)},
		{[]string{"a"}, 16, digit},
		{[]string{"d"}, 15, mixed(15)},
		{[]string{"a", "b"}, 17, digit + "x"},
		{[]string{"a", ""}, 17, digit + "\x00"},
		{[]string{"", "b"}, 17, noughts(16) + "x"},
		{[]string{"a", "a"}, 32, digit + digit},
		{[]string{"a", "", "c", "a", "d"}, 79, digit + noughts(32) + digit + mixed(15)},
		{make([]string, 256), most, noughts(most)},
		{make([]string, 256), most - 15, noughts(most - 15)},
		{slices.Repeat([]string{"a"}, 256), most, strings.Repeat(digit, 256)},
	} {
		checkFill(t, c.names, c.n, chunks, c.want)
	}
}

// P6.3
func TestFillIsTheFile(t *testing.T) {
	for _, n := range lengths() {
		for _, s := range []string{mixed(n), noughts(n), sparse(n, 2), sparse(n, 3), strings.Repeat(digit, 256)[:n], noughts(n/2) + mixed(n-n/2)} {
			checkThereAndBack(t, s)
		}
	}
}

func checkThereAndBack(t *testing.T, s string) {
	t.Helper()
	chunks := map[string]string{}
	for _, c := range chunk.Cut(s) {
		if name := chunk.Name(c); name != "" {
			chunks[name] = c
		}
	}
	checkFill(t, chunk.Names(s), len(s), chunks, s)
}

// P6.3
func TestFillOutOfRange(t *testing.T) {
	chunks := map[string]string{"a": digit}
	for _, count := range []int{0, 1, 2, 3, 255, 256, 257, 258, 1 << 16} {
		names := slices.Repeat([]string{"a"}, count)
		for _, n := range []int{-1, -15, -16, -17, most + 1, most + 16, 1 << 20, 1 << 32, 1<<32 + 16, math.MinInt, math.MinInt + 15, math.MaxInt, math.MaxInt - 15} {
			checkNoFill(t, names, n, chunks, api.ErrRange)
		}
	}
	for _, n := range lengths() {
		count := (n + 15) / 16
		for _, other := range []int{0, 1, 2, count - 1, count + 1, count + 2, 2*count + 1} {
			if other >= 0 && other != count {
				checkNoFill(t, make([]string, other), n, chunks, api.ErrRange)
				checkNoFill(t, slices.Repeat([]string{"?"}, other), n, chunks, api.ErrRange)
			}
		}
	}
	for _, n := range []int{-1, 0, 16, 33, most + 1} {
		got, err := chunk.Fill([]string{"a", "a"}, n, func(string) (string, bool) {
			t.Error("asked in spite of the range")
			return digit, true
		})
		checkRefused(t, call("Fill", n), got, err, api.ErrRange)
	}
}

// P6.3
func TestFillOfWhatIsNotKnown(t *testing.T) {
	chunks := map[string]string{"a": digit, "b": "x", "": "noughts aren't asked for"}
	checkNoFill(t, []string{"?"}, 16, chunks, api.ErrNone)
	checkNoFill(t, []string{"?"}, 1, chunks, api.ErrNone)
	checkNoFill(t, []string{"a", "?"}, 32, chunks, api.ErrNone)
	checkNoFill(t, []string{"?", "a"}, 32, chunks, api.ErrNone)
	checkNoFill(t, []string{"", "?", ""}, 48, chunks, api.ErrNone)
	checkNoFill(t, []string{"\x00"}, 1, chunks, api.ErrNone)
	checkNoFill(t, append(make([]string, 255), "?"), most, chunks, api.ErrNone)
	// it is told ahead of a wrong length, wherever that is
	checkNoFill(t, []string{"b", "?"}, 32, chunks, api.ErrNone)
	checkNoFill(t, []string{"?", "b"}, 32, chunks, api.ErrNone)
	checkNoFill(t, []string{"b", "b", "", "a", "?"}, 80, chunks, api.ErrNone)
	checkFill(t, []string{""}, 16, chunks, noughts(16))

	beside := func(string) (string, bool) { return digit, false }
	got, err := chunk.Fill([]string{"a"}, 16, beside)
	checkRefused(t, "Fill with a chunk beside a false", got, err, api.ErrNone)
	got, err = chunk.Fill([]string{"", "a"}, 32, nil)
	checkRefused(t, "Fill with none to ask", got, err, api.ErrNone)
	got, err = chunk.Fill([]string{"", ""}, 32, nil)
	checkBytes(t, "Fill of noughts, with none to ask", got, err, noughts(32))
}

// P6.3
func TestFillOfOtherLengths(t *testing.T) {
	for n := range 100 {
		chunks := map[string]string{"a": digit, "b": mixed(n)}
		if n != 16 {
			checkNoFill(t, []string{"b"}, 16, chunks, api.ErrForm)
			checkNoFill(t, []string{"b", "a"}, 32, chunks, api.ErrForm)
			checkNoFill(t, []string{"a", "b"}, 32, chunks, api.ErrForm)
			checkNoFill(t, []string{"", "b", ""}, 33, chunks, api.ErrForm)
		}
		for last := 1; last <= 16; last++ {
			if n != last {
				checkNoFill(t, []string{"b"}, last, chunks, api.ErrForm)
				checkNoFill(t, []string{"a", "", "b"}, 32+last, chunks, api.ErrForm)
			} else {
				checkFill(t, []string{"a", "", "b"}, 32+last, chunks, digit+noughts(16)+mixed(n))
			}
		}
	}
	checkNoFill(t, []string{"b"}, 16, map[string]string{"b": mixed(1 << 20)}, api.ErrForm)
	// two that together have as much as they should
	checkNoFill(t, []string{"a", "b"}, 32, map[string]string{"a": mixed(15), "b": mixed(17)}, api.ErrForm)
}

// Rules 3, 4 and 7: what is handed in stays, its spare room too; and answers share memory neither with it nor with each other.
func TestArgumentsStayAndAnswersAreTheirOwn(t *testing.T) {
	names := []string{"a", "", "a", "SPARE", "ROOM"}
	was := slices.Clone(names)
	s := digit + noughts(16) + digit
	for range 2 {
		checkFill(t, names[:3], 48, map[string]string{"a": digit}, s)
		cut, again, named := chunk.Cut(s), chunk.Cut(s), chunk.Names(s)
		if !slices.Equal(cut, again) || !slices.Equal(cut, []string{digit, noughts(16), digit}) || !slices.Equal(named, []string{wantName(digit), "", wantName(digit)}) {
			t.Errorf("the same arguments, other answers: %q %q %x", cut, again, named)
		}
		for _, list := range [][]string{cut, named} {
			for i := range cap(list) {
				list[:cap(list)][i] = "changed"
			}
		}
		if again[0] != digit || again[2] != digit {
			t.Errorf("two answers share memory: %q", again)
		}
	}
	if !slices.Equal(names, was) {
		t.Errorf("left %q", names)
	}
}

func TestAnswersShareNoTexts(t *testing.T) {
	s, data := mixed(40), mixed(50)[10:]
	put, _ := chunk.Put(s, 0, data)
	kept, _ := chunk.Put(s, 0, "")
	fresh, _ := chunk.Put("", 0, data)
	same, _ := chunk.Trunc(s, 40)
	less, _ := chunk.Trunc(s, 20)
	got, _ := chunk.Get(s, 0, 40)
	copied, _ := chunk.Copy("", 0, data, 0, 40)
	filled, _ := chunk.Fill([]string{"a"}, 16, func(string) (string, bool) { return data[:16], true })
	for i, answer := range []string{put, kept, fresh, same, less, got, copied, filled, chunk.Cut(s)[0], chunk.Cut(data)[0]} {
		for _, given := range []string{s, data} {
			if unsafe.StringData(answer) == unsafe.StringData(given) {
				t.Errorf("answer %d is what was handed in", i)
			}
		}
	}
}

func FuzzBytes(f *testing.F) {
	f.Add("ab", 4, "c", 0, 1)
	f.Add("", 4095, "x", 0, 1)
	f.Add(digit, -1, digit+digit, 3, 4097)
	f.Add(mixed(most), 4096, "", 1<<62, 1<<62)
	f.Fuzz(func(t *testing.T, s string, off int, data string, from, n int) {
		if off < 0 {
			checkNoPut(t, s, off, data, api.ErrRange)
		} else if off > most || off+len(data) > most {
			checkNoPut(t, s, off, data, api.ErrLong)
		} else {
			checkPut(t, s, off, data, wantPut(s, off, data))
		}
		if from < 0 || n < 0 || from > len(data) || n > len(data) || from+n > len(data) {
			checkNoCopy(t, s, off, data, from, n, api.ErrRange)
		} else {
			want, wantErr := chunk.Put(s, off, data[from:from+n])
			if got, err := chunk.Copy(s, off, data, from, n); got != want || err != wantErr {
				t.Errorf("Copy = %s, %d", short(got), err)
			}
		}
		if got, err := chunk.Get(s, from, n); from >= 0 && n >= 0 {
			want := ""
			for i := range len(s) {
				if i >= from && i-from < n {
					want += s[i : i+1]
				}
			}
			checkBytes(t, call("Get", from, n), got, err, want)
		} else {
			checkRefused(t, call("Get", from, n), got, err, api.ErrRange)
		}
		if n >= 0 && n <= most {
			checkTrunc(t, s, n, (s + noughts(n))[:n])
		}
	})
}

func FuzzFill(f *testing.F) {
	f.Add(digit+digit+"x", 33, 2, "?")
	f.Add(noughts(20)+digit, 36, 0, "")
	f.Fuzz(func(t *testing.T, s string, n, at int, turned string) {
		s = s[:min(len(s), most)]
		checkThereAndBack(t, s)
		names := chunk.Names(s)
		if len(names) == 0 {
			return
		}
		at = (at%len(names) + len(names)) % len(names)
		chunks := map[string]string{}
		for i, name := range names {
			chunks[name] = chunk.Cut(s)[i]
		}
		names[at] = "turned"
		checkNoFill(t, names, len(s), chunks, api.ErrNone)
		chunks["turned"] = turned
		if cut := chunk.Cut(s); len(turned) == len(cut[at]) {
			cut[at] = turned
			checkFill(t, names, len(s), chunks, strings.Join(cut, ""))
		} else {
			checkNoFill(t, names, len(s), chunks, api.ErrForm)
		}
		if n < 0 || n > most || (n+15)/16 != len(names) {
			checkNoFill(t, names, n, chunks, api.ErrRange)
		}
	})
}

func BenchmarkNames(b *testing.B) {
	s := mixed(most)
	for b.Loop() {
		chunk.Names(s)
	}
}
