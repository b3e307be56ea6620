package digest_test

import (
	"crypto/sha256"
	"encoding/binary"
	"encoding/hex"
	"slices"
	"strconv"
	"strings"
	"testing"

	"snapferry/digest"
)

const emptyDigits = "e3b0c44298fc1c149afbf4c8996fb92427ae41e4649b934ca495991b7852b855"

// upTo is beyond two blocks, with room for what stands behind a text in its last block.
const upTo = 200

func everyByte() string {
	b := make([]byte, 256)
	for i := range b {
		b[i] = byte(i)
	}
	return string(b)
}

// mixed is a text without a period that divides a block.
func mixed(n int) string {
	b := make([]byte, n)
	for i := range b {
		b[i] = byte(i*i + 31*i + i>>8)
	}
	return string(b)
}

func wantSum(text string) string {
	d := sha256.Sum256([]byte(text))
	return string(d[:])
}

func wantJoin(tag byte, parts ...string) string {
	b := []byte{tag}
	for _, p := range parts {
		b = binary.BigEndian.AppendUint32(b, uint32(len(p)))
		b = append(b, p...)
	}
	return wantSum(string(b))
}

// P1.1
func TestSumKnownAnswers(t *testing.T) {
	for _, c := range []struct{ text, want string }{
		{"", emptyDigits},
		{"abc", "ba7816bf8f01cfea414140de5dae2223b00361a396177a9cb410ff61f20015ad"},
		{"abcdbcdecdefdefgefghfghighijhijkijkljklmklmnlmnomnopnopq", "248d6a61d20638b8e5c026930c3e6039a33ce45964ff2167f6ecedd419db06c1"},
		{"abcdefghbcdefghicdefghijdefghijkefghijklfghijklmghijklmnhijklmnoijklmnopjklmnopqklmnopqrlmnopqrsmnopqrstnopqrstu", "cf5b16a778af8380036ce59e7b0492370b249b11e8f07a51afac45037afee9d1"},
		{strings.Repeat("a", 1000000), "cdc76e5c9914fb9281a1c7e284d73e67f1809a48a497200e046d39ccc7112cd0"},
	} {
		if got := hex.EncodeToString([]byte(digest.Sum(c.text))); got != c.want {
			t.Errorf("Sum(%.10q..) = %s, want %s", c.text, got, c.want)
		}
	}
}

// P1.1
func TestSumOfNothing(t *testing.T) {
	for _, parts := range [][]string{nil, {}, {""}, {"", "", ""}} {
		if got := digest.Digits(digest.Sum(parts...)); got != emptyDigits {
			t.Errorf("Sum(%q) = %s", parts, got)
		}
	}
}

// P1.1
func TestSumOfAllLengths(t *testing.T) {
	for n := range upTo + 1 {
		for _, text := range []string{mixed(n), strings.Repeat("\x00", n), strings.Repeat("\xff", n)} {
			if got := digest.Sum(text); got != wantSum(text) {
				t.Errorf("Sum of %d bytes %.3q..: %x", n, text, got)
			}
		}
	}
	for _, n := range []int{1 << 13, 1<<16 - 1, 1 << 16, 1<<20 + 55} {
		if digest.Sum(mixed(n)) != wantSum(mixed(n)) {
			t.Errorf("Sum of %d bytes", n)
		}
	}
}

// The length in bits has more than 32 bits from 2^29 bytes on. P1.1
func TestSumOfLongText(t *testing.T) {
	if testing.Short() {
		t.Skip("hashes half a GiB")
	}
	const pieces = 1<<9 + 1
	piece := mixed(1 << 20)
	parts := make([]string, pieces)
	want := sha256.New()
	for i := range parts {
		parts[i] = piece
		want.Write([]byte(piece))
	}
	if digest.Sum(parts...) != string(want.Sum(nil)) {
		t.Error("Sum of more than 2^29 bytes")
	}
}

// P1.1
func TestSumOfEveryByte(t *testing.T) {
	for b := range 256 {
		text := string([]byte{byte(b)})
		if digest.Sum(text) != wantSum(text) {
			t.Errorf("Sum of byte %d", b)
		}
	}
	if digest.Sum(everyByte()) != wantSum(everyByte()) {
		t.Error("Sum of every byte")
	}
}

// P1.1, P1.2
func TestSumForgetsCuts(t *testing.T) {
	for n := range upTo + 1 {
		text := mixed(n)
		want := wantSum(text)
		for at := range n + 1 {
			if digest.Sum(text[:at], text[at:]) != want || digest.Sum("", text[:at], "", text[at:], "") != want {
				t.Fatalf("Sum of %d bytes cut at %d", n, at)
			}
		}
		for size := 1; size <= n; size++ {
			if digest.Sum(slices.Collect(pieces(text, size))...) != want {
				t.Fatalf("Sum of %d bytes in pieces of %d", n, size)
			}
		}
	}
}

func pieces(text string, size int) func(yield func(string) bool) {
	return func(yield func(string) bool) {
		for len(text) > size {
			if !yield(text[:size]) {
				return
			}
			text = text[size:]
		}
		yield(text)
	}
}

// P1.1
func TestJoinIsSumOfTagAndLengthsAndTexts(t *testing.T) {
	lists := [][]string{nil, {}, {""}, {"", ""}, {"a"}, {"ab", ""}, {"", "ab"}, {"a", "b", "c"}, {everyByte(), "", everyByte()}}
	for n := range upTo + 1 {
		lists = append(lists, []string{mixed(n)}, []string{mixed(n), mixed(upTo - n)})
	}
	lists = append(lists, []string{mixed(1<<16 + 2), "z"})
	for _, l := range lists {
		for _, tag := range []byte{0, 1, 7, 128, 255} {
			if digest.Join(tag, l...) != wantJoin(tag, l...) {
				t.Errorf("Join(%d, %d texts, %.20q..)", tag, len(l), strings.Join(l, "|"))
			}
		}
	}
}

// A length whose four bytes are all different. P1.1
func TestJoinOfLongText(t *testing.T) {
	text := mixed(1<<24 + 0x030200)
	if digest.Join(5, text, "z") != wantJoin(5, text, "z") {
		t.Error("Join of a length of 4 bytes")
	}
}

// P1.1
func TestJoinOfNothing(t *testing.T) {
	for tag := range 256 {
		if digest.Join(byte(tag)) != wantSum(string([]byte{byte(tag)})) {
			t.Errorf("Join(%d)", tag)
		}
	}
}

// P1.2
func TestJoinTellsEveryCutApart(t *testing.T) {
	text := mixed(70)
	seen := map[string]string{}
	add := func(what string, tag byte, parts ...string) {
		name := digest.Join(tag, parts...)
		if other, ok := seen[name]; ok {
			t.Errorf("%s has the name of %s", what, other)
		}
		seen[name] = what
	}
	add("none", 3)
	add("an empty one", 3, "")
	add("two empty ones", 3, "", "")
	add("whole", 3, text)
	for tag := range 256 {
		if tag != 3 {
			add("tag "+strconv.Itoa(tag), byte(tag), text)
		}
	}
	for at := range len(text) + 1 {
		add("cut at "+strconv.Itoa(at), 3, text[:at], text[at:])
		add("an empty one at "+strconv.Itoa(at), 3, text[:at], "", text[at:])
	}
	add("order", 3, "b", "a")
	add("other order", 3, "a", "b")
	add("length within a text", 3, "a\x00\x00\x00\x01b")
}

// P1.1
func TestDigits(t *testing.T) {
	for b := range 256 {
		text := string([]byte{byte(b)})
		if got := digest.Digits(text); got != hex.EncodeToString([]byte(text)) {
			t.Errorf("Digits of byte %d = %q", b, got)
		}
	}
	for _, text := range []string{"", "\x00", "\x00\xfa", "\x0f\xf0", everyByte(), "é", mixed(1000)} {
		if got := digest.Digits(text); got != hex.EncodeToString([]byte(text)) {
			t.Errorf("Digits(%.10q) = %.20q..", text, got)
		}
	}
	if got := digest.Digits("\x01\xab"); got != "01ab" {
		t.Errorf("Digits: %q", got)
	}
}

// Rules 3 and 4: what is handed in stays, its spare room too, and a call's answer hangs on nothing told before.
func TestArgumentsStay(t *testing.T) {
	room := []string{"one", "two", "spare", "room"}
	before := slices.Clone(room)
	first := digest.Sum(room[:2]...)
	joined := digest.Join(9, room[:2]...)
	if !slices.Equal(room, before) {
		t.Errorf("handed in %q, left %q", before, room)
	}
	digest.Sum(mixed(77))
	digest.Join(1, mixed(77))
	if digest.Sum(room[:2]...) != first || digest.Join(9, room[:2]...) != joined {
		t.Error("the same texts, another name")
	}
	if len(first) != sha256.Size || len(joined) != sha256.Size {
		t.Error("a name has 32 bytes")
	}
}

func FuzzDigest(f *testing.F) {
	f.Add(byte(0), []byte(""), []byte(""))
	f.Add(byte(7), []byte("ab"), []byte(strings.Repeat("\x80", 64)))
	f.Fuzz(func(t *testing.T, tag byte, a, b []byte) {
		x, y := string(a), string(b)
		if digest.Sum(x, y) != wantSum(x+y) || digest.Join(tag, x, y) != wantJoin(tag, x, y) {
			t.Errorf("%d %q %q", tag, a, b)
		}
		if digest.Digits(x) != hex.EncodeToString(a) {
			t.Errorf("Digits(%q)", a)
		}
	})
}

func BenchmarkSum(b *testing.B) {
	text := mixed(1 << 16)
	b.SetBytes(int64(len(text)))
	for b.Loop() {
		digest.Sum(text)
	}
}
