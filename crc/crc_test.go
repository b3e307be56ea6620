package crc_test

import (
	"encoding/binary"
	"hash/crc32"
	"slices"
	"strings"
	"testing"
	"unsafe"

	"snapferry/api"
	"snapferry/crc"
)

const (
	sumSize  = 4
	sumBits  = 32
	openable = "123456789"
)

func everyByte() string {
	b := make([]byte, 256)
	for i := range b {
		b[i] = byte(i)
	}
	return string(b)
}

// mixed is a text without a short period.
func mixed(n int) string {
	b := make([]byte, n)
	for i := range b {
		b[i] = byte(i*i + 31*i + i>>8)
	}
	return string(b)
}

func wantSum(text string) uint32 {
	return crc32.Checksum([]byte(text), crc32.MakeTable(crc32.Castagnoli))
}

func wantSeal(text string) string {
	return string(binary.LittleEndian.AppendUint32([]byte(text), wantSum(text)))
}

// turn turns the bits of pattern in s, from bit number at on, the lowest bit of a byte first.
func turn(s string, at int, pattern uint32) string {
	b := []byte(s)
	for i := range sumBits {
		if pattern>>i&1 == 1 {
			b[(at+i)/8] ^= 1 << ((at + i) % 8)
		}
	}
	return string(b)
}

func checkOpen(t *testing.T, s, want string, wantErr api.Errno) {
	t.Helper()
	if got, err := crc.Open(s); got != want || err != wantErr {
		t.Errorf("Open of %d bytes %.40q = %.40q, %d, want %.40q, %d", len(s), s, got, err, want, wantErr)
	}
}

// P2.1
func TestSumKnownAnswers(t *testing.T) {
	rising, falling := everyByte()[:32], []byte(everyByte()[:32])
	slices.Reverse(falling)
	for _, c := range []struct {
		text string
		want uint32
	}{
		{"123456789", 0xe3069283},
		{"", 0},
		{"a", 0xc1d04330},
		{strings.Repeat("\x00", 32), 0x8a9136aa},
		{strings.Repeat("\xff", 32), 0x62a8ab43},
		{rising, 0x46dd794e},
		{string(falling), 0x113fdb5c},
	} {
		if got := crc.Sum(c.text); got != c.want {
			t.Errorf("Sum(%q) = %#08x, want %#08x", c.text, got, c.want)
		}
	}
}

// P2.1
func TestSumOfNothing(t *testing.T) {
	for _, parts := range [][]string{nil, {}, {""}, {"", "", ""}} {
		if got := crc.Sum(parts...); got != 0 {
			t.Errorf("Sum(%q) = %#08x", parts, got)
		}
	}
}

// P2.1
func TestSumOfEveryByte(t *testing.T) {
	for b := range 256 {
		text := string([]byte{byte(b)})
		if crc.Sum(text) != wantSum(text) {
			t.Errorf("Sum of byte %d", b)
		}
	}
	if crc.Sum(everyByte()) != wantSum(everyByte()) {
		t.Error("Sum of every byte")
	}
}

// P2.1
func TestSumOfAllLengths(t *testing.T) {
	for n := range 300 {
		for _, text := range []string{mixed(n), strings.Repeat("\x00", n), strings.Repeat("\xff", n)} {
			if got := crc.Sum(text); got != wantSum(text) {
				t.Errorf("Sum of %d bytes %.3q.. = %#08x", n, text, got)
			}
		}
	}
	for _, n := range []int{api.MaxRecord, api.MaxStream - 1, api.MaxStream, 1<<22 + 5} {
		if crc.Sum(mixed(n)) != wantSum(mixed(n)) {
			t.Errorf("Sum of %d bytes", n)
		}
	}
}

// P2.1
func TestSumForgetsCuts(t *testing.T) {
	for n := range 80 {
		text := mixed(n)
		want := wantSum(text)
		for at := range n + 1 {
			if crc.Sum(text[:at], text[at:]) != want || crc.Sum("", text[:at], "", text[at:], "") != want {
				t.Errorf("Sum of %d bytes cut at %d", n, at)
			}
			for second := at; second <= n; second++ {
				if crc.Sum(text[:at], text[at:second], text[second:]) != want {
					t.Errorf("Sum of %d bytes cut at %d and %d", n, at, second)
				}
			}
		}
		if crc.Sum(strings.Split(text, "")...) != wantSum(text) {
			t.Errorf("Sum of %d bytes, each apart", n)
		}
	}
}

// P2.1
func TestSumHangsOnOrder(t *testing.T) {
	if crc.Sum("a", "b") != wantSum("ab") || crc.Sum("b", "a") != wantSum("ba") || crc.Sum("a", "b") == crc.Sum("b", "a") {
		t.Error("Sum of two texts and of them the other way round")
	}
}

// P2.1
func TestSealKnownAnswers(t *testing.T) {
	for _, c := range []struct{ text, want string }{
		{"123456789", "123456789\x83\x92\x06\xe3"},
		{"", "\x00\x00\x00\x00"},
		{"a", "a\x30\x43\xd0\xc1"},
	} {
		if got := crc.Seal(c.text); got != c.want {
			t.Errorf("Seal(%q) = %q, want %q", c.text, got, c.want)
		}
		checkOpen(t, c.want, c.text, api.OK)
	}
}

// P2.1, P2.2
func TestSealedIsOpened(t *testing.T) {
	texts := []string{everyByte(), mixed(api.MaxRecord), mixed(api.MaxStream), crc.Seal(crc.Seal(openable))}
	for n := range 300 {
		texts = append(texts, mixed(n), strings.Repeat("\x00", n), strings.Repeat("\xff", n))
	}
	for b := range 256 {
		texts = append(texts, string([]byte{byte(b)}))
	}
	for _, text := range texts {
		sealed := crc.Seal(text)
		if sealed != wantSeal(text) {
			t.Errorf("Seal of %d bytes %.10q..", len(text), text)
		}
		checkOpen(t, sealed, text, api.OK)
	}
}

// P2.1
func TestOpenOfTooFewBytes(t *testing.T) {
	for _, s := range []string{"", "a", "ab", "abc", "\x00", "\x00\x00", "\x00\x00\x00", "\xff\xff\xff"} {
		checkOpen(t, s, "", api.ErrForm)
	}
	for n := range sumSize {
		checkOpen(t, crc.Seal(openable)[:n], "", api.ErrForm)
	}
}

// P2.1
func TestOpenOfJustASum(t *testing.T) {
	checkOpen(t, "\x00\x00\x00\x00", "", api.OK)
	for _, s := range []string{"\xff\xff\xff\xff", "\x00\x00\x00\x01", "\x01\x00\x00\x00", "abcd"} {
		checkOpen(t, s, "", api.ErrCorrupt)
	}
}

// P2.1
func TestOpenOfWhatIsNotSealed(t *testing.T) {
	sealed := crc.Seal(openable)
	sum := wantSum(openable)
	for _, s := range []string{
		openable,
		sealed + "\x00",
		"\x00" + sealed,
		sealed + sealed,
		sealed[1:],
		string(binary.BigEndian.AppendUint32([]byte(openable), sum)),
		string(binary.LittleEndian.AppendUint32([]byte(openable), ^sum)),
		string(binary.LittleEndian.AppendUint32([]byte(openable), crc32.ChecksumIEEE([]byte(openable)))),
		string(binary.LittleEndian.AppendUint32(nil, sum)) + openable,
		openable + "\x00\x00\x00\x00",
	} {
		checkOpen(t, s, "", api.ErrCorrupt)
	}
	for n := sumSize; n < len(sealed); n++ {
		checkOpen(t, sealed[:n], "", api.ErrCorrupt)
	}
}

// P2.2
func TestOneBitTurned(t *testing.T) {
	for _, text := range []string{"", "a", openable, everyByte(), mixed(1000), strings.Repeat("\x00", 40)} {
		sealed := crc.Seal(text)
		for at := range 8 * len(sealed) {
			b := []byte(sealed)
			b[at/8] ^= 1 << (at % 8)
			checkOpen(t, string(b), "", api.ErrCorrupt)
		}
	}
}

// Every pattern that lies within few bits, at every place. P2.2
func TestFewBitsTurned(t *testing.T) {
	const width = 12
	for _, text := range []string{"", "a", openable} {
		sealed := crc.Seal(text)
		for at := range 8*len(sealed) - width + 1 {
			for pattern := uint32(1); pattern < 1<<width; pattern += 2 {
				checkOpen(t, turn(sealed, at, pattern), "", api.ErrCorrupt)
			}
			checkOpen(t, turn(sealed, at, 0), text, api.OK)
		}
	}
}

// Patterns of every width up to 32 bits, the first and the last bit turned, at every place. P2.2
func TestBitsWithin32Turned(t *testing.T) {
	for _, text := range []string{"", "a", openable, mixed(100)} {
		sealed := crc.Seal(text)
		for width := 1; width <= sumBits; width++ {
			within := uint32(1<<width - 1)
			ends := uint32(1 | 1<<(width-1))
			for at := range 8*len(sealed) - width + 1 {
				for _, inner := range []uint32{0, within, 0x55555555, 0x33333333, 0x82f63b78, 0x05ec76f1, 0xedb88320, 0x9e3779b9 * uint32(at+1)} {
					checkOpen(t, turn(sealed, at, inner&within|ends), "", api.ErrCorrupt)
				}
			}
		}
	}
}

// The polynomial itself, 33 bits wide, isn't seen: so 32 is the most that P2.2 can promise, and the bits go lowest first.
func TestThePolynomialTurned(t *testing.T) {
	sealed := crc.Seal(openable)
	for at := range 8*len(sealed) - sumBits {
		s := turn(turn(sealed, at, 1), at+1, 0x82f63b78)
		checkOpen(t, s, s[:len(s)-sumSize], api.OK)
	}
}

// Rules 3, 4 and 7: what is handed in stays, its spare room too; answers are new memory, and hang on nothing told before.
func TestArgumentsStay(t *testing.T) {
	room := []string{"one", "two", "spare", "room"}
	before := slices.Clone(room)
	first := crc.Sum(room[:2]...)
	if first != wantSum("onetwo") || !slices.Equal(room, before) {
		t.Errorf("handed in %q, left %q", before, room)
	}
	sealed := crc.Seal(openable)
	crc.Sum(mixed(77))
	crc.Open("not sealed")
	if crc.Sum(room[:2]...) != first || crc.Seal(openable) != sealed {
		t.Error("the same texts, another sum")
	}
	opened, _ := crc.Open(sealed)
	if unsafe.StringData(opened) == unsafe.StringData(sealed) {
		t.Error("Open's answer shares memory with what it was handed")
	}
}

func FuzzCrc(f *testing.F) {
	f.Add("", "", uint16(0), uint32(0))
	f.Add("12345", "6789", uint16(40), uint32(0x80000001))
	f.Fuzz(func(t *testing.T, a, b string, at uint16, pattern uint32) {
		sealed := crc.Seal(a + b)
		if crc.Sum(a, b) != wantSum(a+b) || sealed != wantSeal(a+b) {
			t.Errorf("%q %q", a, b)
		}
		checkOpen(t, sealed, a+b, api.OK)
		turned := turn(sealed, int(at)%(8*len(sealed)-sumBits+1), pattern)
		if pattern != 0 {
			checkOpen(t, turned, "", api.ErrCorrupt)
		}
		got, err := crc.Open(a)
		switch {
		case len(a) < sumSize && (got != "" || err != api.ErrForm):
			t.Errorf("Open(%q) = %q, %d", a, got, err)
		case len(a) >= sumSize && err == api.OK && wantSeal(got) != a:
			t.Errorf("Open(%q) = %q", a, got)
		case len(a) >= sumSize && err != api.OK && (got != "" || err != api.ErrCorrupt || wantSeal(a[:len(a)-sumSize]) == a):
			t.Errorf("Open(%q) = %q, %d", a, got, err)
		}
	})
}

func BenchmarkSum(b *testing.B) {
	text := mixed(1 << 16)
	b.SetBytes(int64(len(text)))
	for b.Loop() {
		crc.Sum(text)
	}
}
