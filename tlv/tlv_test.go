package tlv_test

import (
	"encoding/binary"
	"hash/crc32"
	"math"
	"slices"
	"strings"
	"testing"
	"unsafe"

	"snapferry/api"
	"snapferry/tlv"
)

const (
	headSize = 7
	sumSize  = 4
	sumBits  = 32
	maxSeq   = 1<<31 - 1
)

func rec(kind, seq int, payload string) tlv.Rec {
	return tlv.Rec{Kind: kind, Seq: seq, Payload: payload}
}

// mixed is a text without a short period.
func mixed(n int) string {
	b := make([]byte, n)
	for i := range b {
		b[i] = byte(i*i + 31*i + i>>8)
	}
	return string(b)
}

func wantSeal(text string) string {
	sum := crc32.Checksum([]byte(text), crc32.MakeTable(crc32.Castagnoli))
	return string(binary.LittleEndian.AppendUint32([]byte(text), sum))
}

// head is what stands ahead of a payload, right or not.
func head(kind byte, seq uint32, length int) string {
	b := binary.BigEndian.AppendUint32([]byte{kind}, seq)
	return string(binary.BigEndian.AppendUint16(b, uint16(length)))
}

// sealed has a record's form, but its Kind may be 0 and its number above.
func sealed(kind byte, seq uint32, payload string) string {
	return wantSeal(head(kind, seq, len(payload)) + payload)
}

func wantBytes(x tlv.Rec) string { return sealed(byte(x.Kind), uint32(x.Seq), x.Payload) }

// unsealed turns the last bit of what was sealed.
func unsealed(s string) string {
	b := []byte(s)
	b[len(b)-1] ^= 0x80
	return string(b)
}

// row is records of the numbers from first on, of many Kinds and lengths, and the bytes of all.
func row(first, n int) ([]tlv.Rec, string) {
	var recs []tlv.Rec
	var text strings.Builder
	for i := range n {
		x := rec(i*37%255+1, first+i, mixed(i*7%40))
		recs = append(recs, x)
		text.WriteString(wantBytes(x))
	}
	return recs, text.String()
}

// turn turns the bits of pattern in s, from bit number at on, the lowest bit of a byte first.
func turn(s string, at int, pattern uint32) string {
	b := []byte(s)
	for i := range sumBits {
		if pattern>>i&1 == 1 {
			b[(at+i)/8] ^= 1 << ((at + i) % 8)
		}
	}
	return string(b)
}

func checkPrint(t *testing.T, x tlv.Rec, want string, wantErr api.Errno) {
	t.Helper()
	if got, err := tlv.Print(x); got != want || err != wantErr {
		t.Errorf("Print({%d %d, %d bytes}) = %d bytes %.30x, %d, want %d bytes %.30x, %d", x.Kind, x.Seq, len(x.Payload), len(got), got, err, len(want), want, wantErr)
	}
}

func checkParse(t *testing.T, s string, want tlv.Rec, wantRest string) {
	t.Helper()
	if got, rest, err := tlv.Parse(s); got != want || rest != wantRest || err != api.OK {
		t.Errorf("Parse of %d bytes %.30x = {%d %d %.30q}, %.30q, %d", len(s), s, got.Kind, got.Seq, got.Payload, rest, err)
	}
}

func checkParseErr(t *testing.T, s string, want api.Errno) {
	t.Helper()
	if got, rest, err := tlv.Parse(s); got != (tlv.Rec{}) || rest != "" || err != want {
		t.Errorf("Parse of %d bytes %.30x = {%d %d %.30q}, %.30q, %d, want nothing, %d", len(s), s, got.Kind, got.Seq, got.Payload, rest, err, want)
	}
}

func checkFeed(t *testing.T, r *tlv.Reader, s string, want []tlv.Rec, wantErr api.Errno) {
	t.Helper()
	if got, err := r.Feed(s); !slices.Equal(got, want) || err != wantErr {
		t.Errorf("Feed of %d bytes %.30x = %d records %.80v, %d, want %d records, %d", len(s), s, len(got), got, err, len(want), wantErr)
	}
}

func checkState(t *testing.T, r *tlv.Reader, next, waiting int) {
	t.Helper()
	if r.Next() != next || r.Waiting() != waiting {
		t.Errorf("Next() = %d, Waiting() = %d, want %d, %d", r.Next(), r.Waiting(), next, waiting)
	}
}

// checkWrong: a reader that is wrong stays so, whatever it is fed.
func checkWrong(t *testing.T, r *tlv.Reader, next int, want api.Errno) {
	t.Helper()
	checkState(t, r, next, 0)
	for _, s := range []string{"", "x", wantBytes(rec(1, next, "a")), sealed(1, 0, ""), head(1, 0, 8193), mixed(100), ""} {
		checkFeed(t, r, s, nil, want)
		checkState(t, r, next, 0)
	}
}

// The chapter's example. P4.1
func TestChaptersExample(t *testing.T) {
	s, err := tlv.Print(rec(1, 0, "ab"))
	if len(s) != 13 || s[:9] != "\x01\x00\x00\x00\x00\x00\x02ab" || err != api.OK {
		t.Errorf("%x, %d", s, err)
	}
	checkPrint(t, rec(1, 0, "ab"), wantSeal("\x01\x00\x00\x00\x00\x00\x02ab"), api.OK)
}

// P4.1
func TestPrintKnownBytes(t *testing.T) {
	for _, c := range []struct {
		x    tlv.Rec
		want string
	}{
		{rec(1, 0, ""), "\x01\x00\x00\x00\x00\x00\x00"},
		{rec(255, maxSeq, "z"), "\xff\x7f\xff\xff\xff\x00\x01z"},
		{rec(16, 0x01020304, "\x00\xff"), "\x10\x01\x02\x03\x04\x00\x02\x00\xff"},
		{rec(2, 256, strings.Repeat("x", 256)), "\x02\x00\x00\x01\x00\x01\x00" + strings.Repeat("x", 256)},
		{rec(3, 65536, strings.Repeat("y", 0x1234)), "\x03\x00\x01\x00\x00\x12\x34" + strings.Repeat("y", 0x1234)},
		{rec(4, 1<<24, strings.Repeat("z", 8192)), "\x04\x01\x00\x00\x00\x20\x00" + strings.Repeat("z", 8192)},
	} {
		checkPrint(t, c.x, wantSeal(c.want), api.OK)
	}
}

// P4.1
func TestPrintKinds(t *testing.T) {
	for kind := 1; kind <= 255; kind++ {
		checkPrint(t, rec(kind, 5, "k"), sealed(byte(kind), 5, "k"), api.OK)
	}
	for _, kind := range []int{0, 256, 257, -1, 1 << 8, 1<<16 + 1, math.MinInt, math.MaxInt} {
		checkPrint(t, rec(kind, 5, "k"), "", api.ErrRange)
	}
}

// P4.1
func TestPrintNumbers(t *testing.T) {
	for _, seq := range []int{0, 1, 255, 256, 65535, 65536, 1<<24 - 1, 1 << 24, maxSeq - 1, maxSeq} {
		checkPrint(t, rec(7, seq, "n"), sealed(7, uint32(seq), "n"), api.OK)
	}
	for _, seq := range []int{-1, -2, maxSeq + 1, math.MaxUint32, math.MaxUint32 + 1, math.MinInt32, math.MinInt, math.MaxInt} {
		checkPrint(t, rec(7, seq, "n"), "", api.ErrRange)
	}
}

// P4.1
func TestPrintLengths(t *testing.T) {
	for _, n := range []int{0, 1, 2, 31, 255, 256, 257, 4096, 8191, 8192} {
		checkPrint(t, rec(1, 0, mixed(n)), sealed(1, 0, mixed(n)), api.OK)
	}
	for _, n := range []int{8193, 8194, 65535, 65536, 65537, 1 << 20} {
		checkPrint(t, rec(1, 0, mixed(n)), "", api.ErrLong)
	}
}

// A number out of its range is told ahead of a payload that is too long. P4.1
func TestPrintOrderOfErrors(t *testing.T) {
	long := mixed(8193)
	for _, x := range []tlv.Rec{rec(0, 0, long), rec(256, 0, long), rec(1, -1, long), rec(1, maxSeq+1, long), rec(0, -1, long), {}} {
		checkPrint(t, x, "", api.ErrRange)
	}
	checkPrint(t, rec(255, maxSeq, long), "", api.ErrLong)
}

// P4.1, P4.3
func TestParsePrinted(t *testing.T) {
	rests := []string{"", "z", "\x00", mixed(headSize), mixed(100), sealed(1, 0, ""), head(1, 0, 8193)}
	for _, kind := range []int{1, 2, 128, 254, 255} {
		for _, seq := range []int{0, 1, 0x01020304, maxSeq - 1, maxSeq} {
			for _, n := range []int{0, 1, 255, 256, 8191, 8192} {
				x := rec(kind, seq, mixed(n))
				s, err := tlv.Print(x)
				if err != api.OK {
					t.Fatalf("Print = %d", err)
				}
				for _, rest := range rests {
					checkParse(t, s+rest, x, rest)
				}
			}
		}
	}
}

// P4.1
func TestParseKnownBytes(t *testing.T) {
	checkParse(t, wantSeal("\xff\x7f\xff\xff\xff\x00\x01z"), rec(255, maxSeq, "z"), "")
	checkParse(t, wantSeal("\x10\x01\x02\x03\x04\x00\x02\x00\xff")+"rest", rec(16, 0x01020304, "\x00\xff"), "rest")
	checkParse(t, wantSeal("\x01\x00\x00\x00\x00\x12\x34"+strings.Repeat("y", 0x1234)), rec(1, 0, strings.Repeat("y", 0x1234)), "")
}

// Records one behind the other are parsed by their rests, whatever their numbers. P4.1
func TestParseRow(t *testing.T) {
	want, s := row(1000, 50)
	for _, x := range want {
		got, rest, err := tlv.Parse(s)
		if got != x || err != api.OK {
			t.Errorf("Parse = %v, %d, want %v", got, err, x)
		}
		s = rest
	}
	checkParseErr(t, s, api.ErrNone)
}

// P4.1
func TestParseOfBytesThatEndAhead(t *testing.T) {
	for _, s := range []string{sealed(1, 0, ""), sealed(255, maxSeq, "abc"), sealed(9, 9, mixed(300)), sealed(1, 2, mixed(8192)),
		sealed(0, 0, "no Kind"), sealed(1, maxSeq+1, "above"), sealed(0, math.MaxUint32, ""), unsealed(sealed(1, 1, "x"))} {
		for n := range len(s) {
			checkParseErr(t, s[:n], api.ErrNone)
		}
	}
}

// P4.1
func TestParseOfLengths(t *testing.T) {
	for _, n := range []int{8193, 8194, 8192 + 256, 16384, 65535} {
		for _, start := range []string{head(1, 0, n), head(0, 0, n), head(1, math.MaxUint32, n), head(0, maxSeq+1, n)} {
			checkParseErr(t, start[:headSize-1], api.ErrNone)
			for _, more := range []string{"", "\x00", mixed(n - 1), mixed(n), mixed(n + sumSize), mixed(n + 100)} {
				checkParseErr(t, start+more, api.ErrLong)
			}
			checkParseErr(t, wantSeal(start+mixed(n)), api.ErrLong)
			checkParseErr(t, wantSeal(start+mixed(n))+"z", api.ErrLong)
		}
	}
	for _, n := range []int{0, 1, 255, 256, 8191, 8192} {
		for _, more := range []int{0, 1, n, n + sumSize - 1} {
			checkParseErr(t, head(1, 0, n)+mixed(n + sumSize)[:more], api.ErrNone)
		}
		checkParseErr(t, unsealed(sealed(1, 0, mixed(n))), api.ErrCorrupt)
		checkParse(t, sealed(1, 0, mixed(n)), rec(1, 0, mixed(n)), "")
	}
}

// P4.1
func TestParseOfWhatIsNotSealed(t *testing.T) {
	text := head(3, 4, 5) + "whole"
	sum := crc32.Checksum([]byte(text), crc32.MakeTable(crc32.Castagnoli))
	for _, s := range []string{
		text + "\x00\x00\x00\x00",
		string(binary.BigEndian.AppendUint32([]byte(text), sum)),
		string(binary.LittleEndian.AppendUint32([]byte(text), ^sum)),
		string(binary.LittleEndian.AppendUint32([]byte(text), crc32.ChecksumIEEE([]byte(text)))),
		head(3, 4, 5) + wantSeal("whole"),
		"\x04" + sealed(3, 4, "whole")[1:],
		strings.Repeat("\x00", headSize+sumSize),
	} {
		checkParseErr(t, s, api.ErrCorrupt)
		checkParseErr(t, s+"more", api.ErrCorrupt)
	}
	for b := range len(text) + sumSize {
		s := []byte(wantSeal(text))
		s[b]++
		if b != headSize-1 && b != headSize-2 { // another length: elsewhere
			checkParseErr(t, string(s), api.ErrCorrupt)
		}
	}
	checkParse(t, wantSeal(text), rec(3, 4, "whole"), "")
}

// P4.1
func TestParseOfNoKindAndNumbersAbove(t *testing.T) {
	for _, payload := range []string{"", "x", mixed(8192)} {
		for _, rest := range []string{"", "rest", sealed(1, 0, "")} {
			for _, seq := range []uint32{0, 1, maxSeq, maxSeq + 1, math.MaxUint32} {
				checkParseErr(t, sealed(0, seq, payload)+rest, api.ErrKind)
				checkParseErr(t, unsealed(sealed(0, seq, payload))+rest, api.ErrCorrupt)
			}
			for _, seq := range []uint32{maxSeq + 1, maxSeq + 2, 3 << 30, math.MaxUint32} {
				for _, kind := range []byte{1, 255} {
					checkParseErr(t, sealed(kind, seq, payload)+rest, api.ErrRange)
					checkParseErr(t, unsealed(sealed(kind, seq, payload))+rest, api.ErrCorrupt)
				}
			}
		}
	}
}

// P4.2
func TestNew(t *testing.T) {
	r := tlv.New()
	checkState(t, r, 0, 0)
	for range 3 {
		checkFeed(t, r, "", nil, api.OK)
		checkState(t, r, 0, 0)
	}
	other := tlv.New()
	checkFeed(t, r, sealed(1, 0, "a")+"\x01", []tlv.Rec{rec(1, 0, "a")}, api.OK)
	checkState(t, r, 1, 1)
	checkState(t, other, 0, 0)
}

// P4.2, P4.3
func TestFeedInPieces(t *testing.T) {
	want, s := row(0, 40)
	for size := 1; size <= len(s)+1; size++ {
		r := tlv.New()
		var got []tlv.Rec
		for at := 0; at < len(s); at += size {
			recs, err := r.Feed(s[at:min(at+size, len(s))])
			if err != api.OK {
				t.Fatalf("pieces of %d, at %d: %d", size, at, err)
			}
			got = append(got, recs...)
		}
		if !slices.Equal(got, want) {
			t.Errorf("pieces of %d: %d records, want %d", size, len(got), len(want))
		}
		checkState(t, r, 40, 0)
	}
}

// Cut at each byte, with nothing fed between. P4.2, P4.3
func TestFeedCutInTwo(t *testing.T) {
	want, s := row(0, 12)
	for at := range len(s) + 1 {
		r := tlv.New()
		ended, left := 0, at
		for ended < len(want) && left >= headSize+len(want[ended].Payload)+sumSize {
			left -= headSize + len(want[ended].Payload) + sumSize
			ended++
		}
		checkFeed(t, r, s[:at], want[:ended], api.OK)
		checkState(t, r, ended, left)
		checkFeed(t, r, "", nil, api.OK)
		checkState(t, r, ended, left)
		checkFeed(t, r, s[at:], want[ended:], api.OK)
		checkState(t, r, 12, 0)
	}
}

// Each byte alone: what waits is told at each. P4.2
func TestFeedEachByte(t *testing.T) {
	r := tlv.New()
	for i, payload := range []string{"", "a", mixed(8192), "", mixed(500)} {
		x := rec(i+1, i, payload)
		s := wantBytes(x)
		for at := range len(s) - 1 {
			checkState(t, r, i, at)
			checkFeed(t, r, s[at:at+1], nil, api.OK)
		}
		checkState(t, r, i, len(s)-1)
		checkFeed(t, r, s[len(s)-1:], []tlv.Rec{x}, api.OK)
		checkState(t, r, i+1, 0)
	}
}

// P4.2
func TestFeedManyInOnePiece(t *testing.T) {
	const many = 50000
	want, s := row(0, many)
	r := tlv.New()
	checkFeed(t, r, s, want, api.OK)
	checkState(t, r, many, 0)
	want, s = row(many, 3)
	checkFeed(t, r, s+"\x01\x00", want, api.OK)
	checkState(t, r, many+3, 2)
}

// P4.2
func TestFeedOfAllKinds(t *testing.T) {
	r := tlv.New()
	for kind := 1; kind <= 255; kind++ {
		checkFeed(t, r, sealed(byte(kind), uint32(kind-1), "k"), []tlv.Rec{rec(kind, kind-1, "k")}, api.OK)
	}
	checkState(t, r, 255, 0)
}

// The length is told as soon as it is there, and not ahead of that. P4.2
func TestWrongByLength(t *testing.T) {
	for _, n := range []int{8193, 8192 + 256, 65535} {
		for _, start := range []string{head(1, 0, n), head(0, 0, n), head(1, 9, n), head(1, math.MaxUint32, n)} {
			r := tlv.New()
			checkFeed(t, r, start[:6], nil, api.OK)
			checkState(t, r, 0, 6)
			checkFeed(t, r, start[6:], nil, api.ErrLong)
			checkWrong(t, r, 0, api.ErrLong)

			r = tlv.New()
			checkFeed(t, r, start, nil, api.ErrLong)
			checkWrong(t, r, 0, api.ErrLong)

			r = tlv.New()
			checkFeed(t, r, wantSeal(start+mixed(n))+sealed(1, 0, ""), nil, api.ErrLong)
			checkWrong(t, r, 0, api.ErrLong)
		}
	}
	r := tlv.New()
	checkFeed(t, r, head(1, 0, 8192), nil, api.OK)
	checkState(t, r, 0, headSize)
	checkFeed(t, r, sealed(1, 0, mixed(8192))[headSize:], []tlv.Rec{rec(1, 0, mixed(8192))}, api.OK)
	checkState(t, r, 1, 0)
}

// What else is wrong is told when all of a record's bytes are there. P4.2
func TestWrongBehindRecords(t *testing.T) {
	for _, c := range []struct {
		what, wrong string
		want        api.Errno
	}{
		{"not sealed", unsealed(sealed(1, 3, "x")), api.ErrCorrupt},
		{"not sealed, an empty one", unsealed(sealed(1, 3, "")), api.ErrCorrupt},
		{"not sealed, no Kind", unsealed(sealed(0, 3, "x")), api.ErrCorrupt},
		{"not sealed, another number", unsealed(sealed(1, 9, "x")), api.ErrCorrupt},
		{"not sealed, a number above", unsealed(sealed(1, maxSeq+1, "x")), api.ErrCorrupt},
		{"noughts", strings.Repeat("\x00", 11), api.ErrCorrupt},
		{"no Kind", sealed(0, 3, "x"), api.ErrKind},
		{"no Kind, another number", sealed(0, 2, "x"), api.ErrKind},
		{"no Kind, a number above", sealed(0, maxSeq+1, ""), api.ErrKind},
		{"the first number", sealed(1, 0, "x"), api.ErrSeq},
		{"the number before", sealed(1, 2, "x"), api.ErrSeq},
		{"the number behind", sealed(1, 4, "x"), api.ErrSeq},
		{"the number's bytes the other way round", sealed(1, 3<<24, ""), api.ErrSeq},
		{"the greatest number", sealed(255, maxSeq, "x"), api.ErrSeq},
		{"a number above", sealed(1, maxSeq+1, "x"), api.ErrSeq},
		{"the next number, above", sealed(1, maxSeq+1+3, "x"), api.ErrSeq},
		{"the greatest that can be written", sealed(1, math.MaxUint32, mixed(8192)), api.ErrSeq},
	} {
		want, s := row(0, 3)
		r := tlv.New()
		checkFeed(t, r, s+c.wrong+sealed(1, 3, "behind"), want, c.want)
		checkWrong(t, r, 3, c.want)

		r = tlv.New()
		checkFeed(t, r, s, want, api.OK)
		checkFeed(t, r, c.wrong, nil, c.want)
		checkWrong(t, r, 3, c.want)

		r = tlv.New()
		checkFeed(t, r, s, want, api.OK)
		for at := range len(c.wrong) - 1 {
			checkState(t, r, 3, at)
			checkFeed(t, r, c.wrong[at:at+1], nil, api.OK)
		}
		checkFeed(t, r, c.wrong[len(c.wrong)-1:], nil, c.want)
		checkWrong(t, r, 3, c.want)
		if t.Failed() {
			t.Fatal(c.what)
		}
	}
}

// Where a record is wrong first, the ones behind it are not looked at. P4.2
func TestWrongAtTheFirst(t *testing.T) {
	faults := map[api.Errno]string{
		api.ErrCorrupt: unsealed(sealed(1, 1, "x")),
		api.ErrKind:    sealed(0, 1, "x"),
		api.ErrSeq:     sealed(1, 5, "x"),
		api.ErrLong:    head(1, 1, 8193),
	}
	for first, s := range faults {
		for _, behind := range faults {
			r := tlv.New()
			checkFeed(t, r, sealed(1, 0, "a")+s+behind, []tlv.Rec{rec(1, 0, "a")}, first)
			checkWrong(t, r, 1, first)
		}
	}
}

// P4.2
func TestFirstNumberIsNought(t *testing.T) {
	for _, seq := range []uint32{1, 2, 255, maxSeq, maxSeq + 1} {
		r := tlv.New()
		checkFeed(t, r, sealed(1, seq, ""), nil, api.ErrSeq)
		checkWrong(t, r, 0, api.ErrSeq)
	}
	r := tlv.New()
	checkFeed(t, r, sealed(1, 0, "")+sealed(1, 0, ""), []tlv.Rec{rec(1, 0, "")}, api.ErrSeq)
	checkWrong(t, r, 1, api.ErrSeq)
}

// P4.2
func TestSkip(t *testing.T) {
	for _, n := range []int{0, 1, 7, 256, maxSeq - 2} {
		r := tlv.New()
		r.Skip(n)
		checkState(t, r, n, 0)
		want, s := row(n, 3)
		checkFeed(t, r, s+"\x05", want, api.OK)
		checkState(t, r, n+3, 1)
	}
	r := tlv.New()
	checkFeed(t, r, sealed(1, 0, "")+sealed(1, 1, ""), []tlv.Rec{rec(1, 0, ""), rec(1, 1, "")}, api.OK)
	r.Skip(0)
	checkState(t, r, 0, 0)
	checkFeed(t, r, sealed(2, 0, "again"), []tlv.Rec{rec(2, 0, "again")}, api.OK)
	r.Skip(5)
	checkFeed(t, r, sealed(2, 1, ""), nil, api.ErrSeq)
	checkWrong(t, r, 5, api.ErrSeq)
}

// P4.2
func TestSkipWithinARecord(t *testing.T) {
	s := sealed(1, 0, "first")
	for at := range len(s) {
		for _, n := range []int{0, 1, 4} {
			r := tlv.New()
			checkFeed(t, r, s[:at], nil, api.OK)
			r.Skip(-1)
			r.Skip(math.MinInt)
			checkState(t, r, 0, at)
			r.Skip(n)
			checkState(t, r, n, 0)
			checkFeed(t, r, sealed(2, uint32(n), "other")+s[:1], []tlv.Rec{rec(2, n, "other")}, api.OK)
			checkState(t, r, n+1, 1)
		}
		r := tlv.New()
		checkFeed(t, r, s[:at], nil, api.OK)
		r.Skip(-1)
		checkFeed(t, r, s[at:], []tlv.Rec{rec(1, 0, "first")}, api.OK)
	}
}

// P4.2
func TestSkipWhenWrong(t *testing.T) {
	for wrong, want := range map[string]api.Errno{
		head(1, 1, 8193):           api.ErrLong,
		unsealed(sealed(1, 1, "")): api.ErrCorrupt,
		sealed(0, 1, ""):           api.ErrKind,
		sealed(1, 2, ""):           api.ErrSeq,
	} {
		for _, n := range []int{0, 1, 2, 300} {
			r := tlv.New()
			checkFeed(t, r, sealed(1, 0, "")+wrong+"behind", []tlv.Rec{rec(1, 0, "")}, want)
			r.Skip(-1)
			checkWrong(t, r, 1, want)
			r.Skip(n)
			checkState(t, r, n, 0)
			checkFeed(t, r, "", nil, api.OK)
			checkFeed(t, r, sealed(8, uint32(n), "on")+"\x08", []tlv.Rec{rec(8, n, "on")}, api.OK)
			checkState(t, r, n+1, 1)
			r.Skip(1)
			checkFeed(t, r, wrong, nil, want)
			checkWrong(t, r, 1, want)
		}
	}
}

// The last number, and those above: there is no record of them, whatever comes. P4.1, P4.2
func TestSkipToNumbersAbove(t *testing.T) {
	r := tlv.New()
	r.Skip(maxSeq)
	checkState(t, r, maxSeq, 0)
	checkFeed(t, r, sealed(1, maxSeq, "last"), []tlv.Rec{rec(1, maxSeq, "last")}, api.OK)
	checkState(t, r, maxSeq+1, 0)
	checkFeed(t, r, sealed(1, maxSeq+1, "above"), nil, api.ErrSeq)
	checkWrong(t, r, maxSeq+1, api.ErrSeq)
	for _, n := range []int{maxSeq + 1, math.MaxUint32, math.MaxUint32 + 1, math.MaxInt} {
		for _, seq := range []uint32{0, 1, maxSeq, uint32(n)} {
			r.Skip(n)
			checkState(t, r, n, 0)
			checkFeed(t, r, "\x01", nil, api.OK)
			checkState(t, r, n, 1)
			checkFeed(t, r, sealed(1, seq, "")[1:], nil, api.ErrSeq)
			checkWrong(t, r, n, api.ErrSeq)
		}
	}
}

// Patterns of every width up to 32 bits, the first and the last bit turned, at every place, of one record and of the middle one of three. P4.3
func TestBitsWithin32Turned(t *testing.T) {
	for _, payload := range []string{"", "a", "123456789", mixed(60)} {
		s := sealed(2, 1, payload)
		before, behind := sealed(1, 0, "before"), sealed(3, 2, mixed(8192))
		for width := 1; width <= sumBits; width++ {
			within := uint32(1<<width - 1)
			ends := uint32(1 | 1<<(width-1))
			for at := range 8*len(s) - width + 1 {
				for _, inner := range []uint32{0, within, 0x55555555, 0x82f63b78, 0x9e3779b9 * uint32(at+1)} {
					turned := turn(s, at, inner&within|ends)
					if x, _, err := tlv.Parse(turned); err == api.OK {
						t.Fatalf("Parse(%x) = %v, of %x", turned, x, s)
					}
					checkTurned(t, before, turned, behind)
				}
			}
		}
	}
}

// checkTurned: of three records the middle one was turned: it isn't read, and none behind it.
func checkTurned(t *testing.T, before, turned, behind string) {
	t.Helper()
	r := tlv.New()
	recs, err := r.Feed(before + turned)
	if len(recs) != 1 || recs[0] != rec(1, 0, "before") {
		t.Fatalf("%x behind a record: %v", turned, recs)
	}
	if err != api.OK { // else its length was turned to more, and bytes are wanted
		return
	}
	if recs, err := r.Feed(behind); len(recs) != 0 || err == api.OK {
		t.Fatalf("%x with a record behind it: %d records, %d", turned, len(recs), err)
	}
}

// Where bits of the length are turned the sum stands elsewhere: a payload that was made for it is a record within the record. No reader can tell that it wasn't meant.
func TestTurnedLengthOfAMadePayload(t *testing.T) {
	within := sealed(1, 0, "x")
	s := sealed(1, 0, within[headSize:])
	checkParse(t, s, rec(1, 0, within[headSize:]), "")
	turned := turn(s, 8*(headSize-1), uint32(1^len(within[headSize:])))
	checkParse(t, turned, rec(1, 0, "x"), s[len(within):])
}

// Records that are lost, doubled or change places are told by their numbers. P4.3
func TestNoRecordOutOfItsOrder(t *testing.T) {
	recs, _ := row(0, 5)
	for i := range recs {
		for j := range recs {
			if i == j {
				continue
			}
			other := slices.Clone(recs)
			other[i], other[j] = other[j], other[i]
			checkOrder(t, other, recs, min(i, j))
		}
		checkOrder(t, slices.Insert(slices.Clone(recs), i, recs[i]), recs, i+1)
		if i < len(recs)-1 {
			checkOrder(t, slices.Delete(slices.Clone(recs), i, i+1), recs, i)
		}
	}
}

// checkOrder: of what is fed just the first n are read.
func checkOrder(t *testing.T, fed, recs []tlv.Rec, n int) {
	t.Helper()
	var s strings.Builder
	for _, x := range fed {
		s.WriteString(wantBytes(x))
	}
	r := tlv.New()
	checkFeed(t, r, s.String(), recs[:n], api.ErrSeq)
	checkWrong(t, r, n, api.ErrSeq)
}

// Rules 3, 4 and 7: answers are new memory, are not changed by what comes later, and hang on nothing told to others.
func TestAnswersAreTheirOwn(t *testing.T) {
	want, s := row(0, 6)
	r := tlv.New()
	first, _ := r.Feed(s + "\x01")
	before := slices.Clone(first)
	again, _ := tlv.New().Feed(s)
	for i := range first {
		first[i].Payload = "changed"
	}
	r.Feed(sealed(1, 6, "later")[1:])
	r.Skip(0)
	second, _ := r.Feed(s)
	if !slices.Equal(before, want) || !slices.Equal(again, want) || !slices.Equal(second, want) {
		t.Error("the same bytes, other records")
	}
	given := sealed(1, 0, "payload") + "rest"
	x, rest, _ := tlv.Parse(given)
	recs, _ := tlv.New().Feed(given)
	for _, got := range []string{x.Payload, rest, recs[0].Payload} {
		if inside(got, given) {
			t.Errorf("%q shares memory with what was handed in", got)
		}
	}
}

func inside(part, whole string) bool {
	at, from := uintptr(unsafe.Pointer(unsafe.StringData(part))), uintptr(unsafe.Pointer(unsafe.StringData(whole)))
	return at >= from && at < from+uintptr(len(whole))
}

// parse is the words' record, as a plain cut of bytes.
func parse(s string) (tlv.Rec, string, api.Errno) {
	if len(s) < headSize {
		return tlv.Rec{}, "", api.ErrNone
	}
	n := int(binary.BigEndian.Uint16([]byte(s[5:])))
	end := headSize + n + sumSize
	if n > 8192 {
		return tlv.Rec{}, "", api.ErrLong
	} else if len(s) < end {
		return tlv.Rec{}, "", api.ErrNone
	} else if wantSeal(s[:end-sumSize]) != s[:end] {
		return tlv.Rec{}, "", api.ErrCorrupt
	} else if s[0] == 0 {
		return tlv.Rec{}, "", api.ErrKind
	} else if s[1] >= 0x80 {
		return tlv.Rec{}, "", api.ErrRange
	}
	seq := int(binary.BigEndian.Uint32([]byte(s[1:])))
	return rec(int(s[0]), seq, s[headSize:end-sumSize]), s[end:], api.OK
}

// model is a reader as the words say it: it reads all that it was fed since it was skipped each time anew.
type model struct {
	first int
	fed   string
}

func (m *model) read() (recs []tlv.Rec, waiting int, err api.Errno) {
	for rest := m.fed; ; {
		x, behind, err := parse(rest)
		if err == api.ErrNone {
			return recs, len(rest), api.OK
		} else if err == api.ErrRange || err == api.OK && x.Seq != m.first+len(recs) {
			return recs, 0, api.ErrSeq
		} else if err != api.OK {
			return recs, 0, err
		}
		recs = append(recs, x)
		rest = behind
	}
}

func (m *model) feed(s string) ([]tlv.Rec, api.Errno) {
	before, _, err := m.read()
	if err != api.OK {
		return nil, err
	}
	m.fed += s
	recs, _, err := m.read()
	return recs[len(before):], err
}

// runBoth does what the bytes say to a reader and to a model, and holds the one against the other at each step.
func runBoth(t *testing.T, script []byte) {
	r, m, seq := tlv.New(), &model{}, 0
	var line string // what was written, and isn't fed yet
	for ; len(script) >= 3; script = script[3:] {
		a, b := int(script[1]), int(script[2])
		switch script[0] % 32 {
		default:
			line += sealed(byte(a|1), uint32(seq), mixed(b%50))
			seq++
		case 0:
			line += unsealed(sealed(byte(a), uint32(seq), mixed(b%9)))
		case 1:
			line += sealed(byte(a%2), uint32(seq+b%3-1), "")
		case 2:
			line += head(byte(a), uint32(seq), 8192+b%3)
		case 3:
			seq = a%20 - 2
			r.Skip(seq)
			if seq >= 0 {
				*m = model{first: seq}
			}
			seq = r.Next()
			line = ""
		case 4:
			line += string(script[:3])
		case 5, 6, 7, 8, 9, 10, 11, 12, 13, 14:
			s := line[:min(len(line), a*b%300)]
			line = line[len(s):]
			want, wantErr := m.feed(s)
			checkFeed(t, r, s, want, wantErr)
		}
		recs, waiting, _ := m.read()
		checkState(t, r, m.first+len(recs), waiting)
		wantRec, wantRest, wantErr := parse(line)
		if got, rest, err := tlv.Parse(line); got != wantRec || rest != wantRest || err != wantErr {
			t.Fatalf("Parse(%x) = %v, %x, %d, want %v, %x, %d", line, got, rest, err, wantRec, wantRest, wantErr)
		}
		if t.Failed() {
			t.FailNow()
		}
	}
}

// P4.1, P4.2, P4.3
func TestAgainstTheWords(t *testing.T) {
	next := uint32(1)
	for range 200 {
		script := make([]byte, 450)
		for i := range script {
			next = next*1664525 + 1013904223
			script[i] = byte(next >> 24)
		}
		runBoth(t, script)
		for i := range script { // fewer faults, so that more records are read
			if i%3 == 0 && script[i]%32 < 5 && script[i] < 200 {
				script[i] = 9
			}
		}
		runBoth(t, script)
	}
}

func FuzzReader(f *testing.F) {
	f.Add([]byte("\x1f\x01\x02\x1f\x05\x06\x05\xff\xff\x03\x05\x00\x1f\x01\x02\x05\xff\xff"))
	f.Fuzz(func(t *testing.T, script []byte) {
		runBoth(t, script[:min(len(script), 1000)])
	})
}

func FuzzParse(f *testing.F) {
	f.Add([]byte(sealed(1, 0, "ab") + "rest"))
	f.Add([]byte(head(1, 0, 8193)))
	f.Fuzz(func(t *testing.T, b []byte) {
		for _, s := range []string{string(b), wantSeal(string(b))} {
			want, wantRest, wantErr := parse(s)
			got, rest, err := tlv.Parse(s)
			if got != want || rest != wantRest || err != wantErr {
				t.Errorf("Parse(%x) = %v, %x, %d, want %v, %x, %d", s, got, rest, err, want, wantRest, wantErr)
			}
		}
	})
}

// So that bytes that come one by one take no time to speak of.
func BenchmarkFeedEachByte(b *testing.B) {
	s := sealed(1, 0, mixed(8192))
	b.SetBytes(int64(len(s)))
	for b.Loop() {
		r := tlv.New()
		for at := range len(s) {
			r.Feed(s[at : at+1])
		}
	}
}

func BenchmarkFeedOnePiece(b *testing.B) {
	_, s := row(0, 1500)
	b.SetBytes(int64(len(s)))
	for b.Loop() {
		tlv.New().Feed(s)
	}
}
