package wire_test

import (
	"fmt"
	"math/rand"
	"slices"
	"strings"
	"testing"

	"snapferry/api"
	"snapferry/cmd"
	"snapferry/wire"
)

// fault is bytes of no stream, and what is told of them behind so many steps.
type fault struct {
	what  string
	bytes string
	steps int
	want  api.Errno
}

// turnLast turns the last bit of what was sealed.
func turnLast(s string) string {
	b := []byte(s)
	b[len(b)-1] ^= 0x80
	return string(b)
}

// faults: of a head and two commands, and what may come instead of each record.
func faults() []fault {
	h := someHead()
	l := everyKind()[:2]
	p := wantParts(h, l)
	two := p[0] + p[1]
	whole := strings.Join(p, "")
	text := wantCmdText(l[1])
	head := wantHeadText(h)
	list := []fault{
		{"a command at first", rec(11, 0, wantCmdText(l[0])), 0, api.ErrKind},
		{"an end at first", rec(2, 0, sum("")), 0, api.ErrKind},
		{"a Kind 3 at first", rec(3, 0, head), 0, api.ErrKind},
		{"a Kind 0 at first", rec(0, 0, head), 0, api.ErrKind},
		{"a head of the number 1", rec(1, 1, head), 0, api.ErrSeq},
		{"a head turned", turnLast(p[0]), 0, api.ErrCorrupt},
		{"a head too long for a record", recordStart(1, 0, 8193), 0, api.ErrLong},
		{"a head again", two + rec(1, 2, head), 2, api.ErrKind},
		{"a head of no form again", two + rec(1, 2, ""), 2, api.ErrKind},
		{"a Kind 0", two + rec(0, 2, text), 2, api.ErrKind},
		{"the number again", two + rec(12, 1, text), 2, api.ErrSeq},
		{"a number too far", two + rec(12, 3, text), 2, api.ErrSeq},
		{"a number above all", two + rec(12, 1<<31+2, text), 2, api.ErrSeq},
		{"the head's bytes again", two + p[0], 2, api.ErrSeq},
		{"a command turned", two + turnLast(p[2]), 2, api.ErrCorrupt},
		{"a command too long for a record", two + recordStart(12, 2, 8193), 2, api.ErrLong},
		{"a command cut", two + rec(12, 2, text[:20]), 2, api.ErrForm},
		{"an empty command", two + rec(12, 2, ""), 2, api.ErrForm},
		{"a command and a byte", two + rec(12, 2, text+"x"), 2, api.ErrForm},
		{"a command of another Kind", two + rec(18, 2, text), 2, api.ErrForm},
		{"an end of other bytes", two + rec(2, 2, sum(p[0])), 2, api.ErrCorrupt},
		{"an end of all but the last byte", two + rec(2, 2, sum(two[:len(two)-1])), 2, api.ErrCorrupt},
		{"an end of no bytes", two + rec(2, 2, sum("")), 2, api.ErrCorrupt},
		{"an empty end", two + rec(2, 2, ""), 2, api.ErrCorrupt},
		{"an end cut", two + rec(2, 2, sum(two)[:31]), 2, api.ErrCorrupt},
		{"an end and a byte", two + rec(2, 2, sum(two)+"x"), 2, api.ErrCorrupt},
		{"an end turned", two + turnLast(withEnd(p[0], p[1])[len(two):]), 2, api.ErrCorrupt},
		{"a byte behind the end", whole + "x", 4, api.ErrState},
		{"a byte 0 behind the end", whole + "\x00", 4, api.ErrState},
		{"an end behind the end", whole + rec(2, 4, sum(whole)), 4, api.ErrState},
		{"a command behind the end", whole + rec(12, 4, text), 4, api.ErrState},
		{"a head behind the end", whole + p[0], 4, api.ErrState},
		{"what isn't sealed behind the end", whole + turnLast(rec(12, 4, text)), 4, api.ErrState},
		{"what is too long behind the end", whole + recordStart(12, 4, 8193), 4, api.ErrState},
		{"a Kind 0 behind the end", whole + rec(0, 4, ""), 4, api.ErrState},
		{"a part behind the end", whole + rec(2, 4, "")[:7], 4, api.ErrState},
	}
	for kind := 3; kind <= 255; kind++ {
		if kind <= 10 || kind >= 21 {
			list = append(list, fault{fmt.Sprint("a Kind ", kind), two + rec(kind, 2, text), 2, api.ErrKind})
		}
		list = append(list, fault{fmt.Sprint("at first a Kind ", kind), rec(kind, 0, head), 0, api.ErrKind})
	}
	for i, s := range wrongHeads() {
		list = append(list, fault{fmt.Sprint("a wrong head, number ", i), rec(1, 0, s), 0, api.ErrForm})
	}
	return list
}

// wrongHeads: payloads that are no head's.
func wrongHeads() []string {
	h := someHead()
	text := wantHeadText(h)
	l := []string{"", "SNP1", text[:71], text + "\x00", text[1:], "\x00" + text, "SNP1" + text, mixed(72), mixed(8192)}
	for i := range 4 {
		b := []byte(text)
		b[i] ^= 1
		l = append(l, string(b))
	}
	l = append(l, "snp1"+text[4:])
	for _, next := range []int{0, 1, 1 << 31, 1<<31 + 2, 1<<32 - 1} {
		l = append(l, text[:68]+number(next))
	}
	l = append(l, text[:68]+number(2)+"\x00", text[:68]+"\x00"+number(2), text[:68]+number(2)[1:])
	return l
}

// P15.2
func TestFaults(t *testing.T) {
	for _, f := range faults() {
		g := read(f.bytes)
		if g.err != f.want || len(g.steps) != f.steps {
			t.Fatalf("%s: the model tells %d steps, %d", f.what, len(g.steps), g.err)
		}
		r := wire.New()
		got, err := r.Feed(f.bytes)
		checkSteps(t, f.what, got, err, g.steps, f.want)
		taken := 0
		if f.steps > 0 {
			taken = g.ends[f.steps-1]
		}
		checkState(t, f.what, r, taken, false)
		checkDecodeErr(t, f.bytes, f.want)
		if q, err := wire.Resume(f.bytes); q != nil || err != api.ErrForm {
			t.Errorf("%s: Resume = %v, %d", f.what, q != nil, err)
		}
	}
}

// Of several faults the first record's is told, whatever stands behind it, and in whatever pieces it comes. P15.2
func TestFirstFault(t *testing.T) {
	h := someHead()
	for _, f := range faults() {
		checkPieces(t, f.bytes, "", "x", wantStream(h, nil), mixed(70000), "")
		for _, s := range []string{"x", "\x00", mixed(30), wantStream(h, nil), rec(0, 1, ""), rec(12, 3, ""), recordStart(1, 0, 8193), turnLast(rec(1, 0, "")), withEnd(rec(1, 0, wantHeadText(h)))} {
			checkPieces(t, f.bytes+s, "x")
			checkDecode(t, f.bytes+s)
		}
		for i := range len(f.bytes) {
			checkPieces(t, f.bytes[:i], f.bytes[i:]+"x", "x")
		}
		checkPieces(t, strings.Split(f.bytes+"x", "")...)
	}
}

// A record has more than one fault: which is told? P15.2
func TestOrderOfFaults(t *testing.T) {
	p := wantParts(someHead(), everyKind()[:2])
	two := p[0] + p[1]
	for i, x := range []struct {
		bytes string
		want  api.Errno
	}{
		{rec(0, 7, ""), api.ErrKind},
		{rec(2, 7, ""), api.ErrSeq},
		{turnLast(rec(0, 7, "")), api.ErrCorrupt},
		{rec(1, 7, "x"), api.ErrSeq},
		{rec(11, 7, "x"), api.ErrSeq},
		{rec(2, 0, "x"), api.ErrKind},
		{rec(11, 0, "x"), api.ErrKind},
		{two + rec(1, 7, "x"), api.ErrSeq},
		{two + rec(21, 7, "x"), api.ErrSeq},
		{two + rec(2, 7, "x"), api.ErrSeq},
		{two + rec(1, 2, "x"), api.ErrKind},
		{two + rec(10, 2, "x"), api.ErrKind},
		{two + rec(21, 2, "x"), api.ErrKind},
		{strings.Join(p, "") + rec(0, 7, ""), api.ErrState},
	} {
		if _, err := wire.New().Feed(x.bytes); err != x.want {
			t.Errorf("%d: %d, want %d", i, err, x.want)
		}
		checkDecode(t, x.bytes)
	}
}

// P15.2
func TestEachRecordATime(t *testing.T) {
	l := everyKind()
	steps := wantSteps(someHead(), l)
	r := wire.New()
	checkState(t, "fed nothing", r, 0, false)
	taken := 0
	for i, s := range wantParts(someHead(), l) {
		what := fmt.Sprint("record ", i)
		got, err := r.Feed("")
		checkSteps(t, what+", nothing", got, err, nil, api.OK)
		for j := range len(s) - 1 {
			got, err := r.Feed(s[j : j+1])
			checkSteps(t, what+", a byte", got, err, nil, api.OK)
			checkState(t, what+", a byte", r, taken, false)
		}
		got, err = r.Feed(s[len(s)-1:])
		taken += len(s)
		checkSteps(t, what, got, err, steps[i:i+1], api.OK)
		checkState(t, what, r, taken, i == len(steps)-1)
	}
	got, err := r.Feed("")
	checkSteps(t, "nothing behind the end", got, err, nil, api.OK)
	checkState(t, "nothing behind the end", r, taken, true)
	for range 2 {
		got, err = r.Feed("x")
		checkSteps(t, "a byte behind the end", got, err, nil, api.ErrState)
		checkState(t, "a byte behind the end", r, taken, false)
	}
	got, err = r.Feed("")
	checkSteps(t, "for ever", got, err, nil, api.ErrState)
}

// P15.2, P15.4
func TestCutInThree(t *testing.T) {
	s := wantStream(someHead(), everyKind()[:6])
	for i := range len(s) + 1 {
		checkPieces(t, s[:i], s[i:], "", "x", "x")
		checkPieces(t, s[:i], s[i:]+"x")
		for j := i; j <= len(s); j += 23 {
			checkPieces(t, s[:i], s[i:j], s[j:])
		}
	}
}

// cutAtRandom: bytes in pieces, some of them empty.
func cutAtRandom(rng *rand.Rand, s string) []string {
	var pieces []string
	for s != "" {
		n := rng.Intn(min(len(s), 1+rng.Intn(200)) + 1)
		pieces = append(pieces, s[:n])
		s = s[n:]
	}
	return pieces
}

// P15.2, P15.4
func TestRandomPieces(t *testing.T) {
	rng := rand.New(rand.NewSource(1515))
	for range 400 {
		h, l := randomStream(rng)
		parts := wantParts(h, l)
		if rng.Intn(3) == 0 { // something else on the way
			all := faults()
			parts = slices.Insert(parts, rng.Intn(len(parts)+1), all[rng.Intn(len(all))].bytes)
		}
		s := strings.Join(parts, "")
		checkDecode(t, s)
		checkPieces(t, append(cutAtRandom(rng, s), "x", "")...)
	}
}

// Whatever bytes come, there is an answer. P15.2
func TestAnyBytes(t *testing.T) {
	rng := rand.New(rand.NewSource(15))
	for range 3000 {
		b := make([]byte, rng.Intn(200))
		for i := range b {
			b[i] = byte(rng.Intn(256) >> (rng.Intn(2) * 6))
		}
		checkDecode(t, string(b))
		checkPieces(t, cutAtRandom(rng, string(b))...)
		checkPieces(t, append([]string{wantParts(someHead(), nil)[0]}, cutAtRandom(rng, string(b))...)...)
	}
}

// More bytes than a stream has are told of at once, and nothing of those that come last is read. P15.2
func TestTooManyBytes(t *testing.T) {
	h := someHead()
	s := wantStream(h, sized(longest))
	checkPieces(t, s, "", "x", "")
	checkPieces(t, s+"x", "", s)
	checkPieces(t, s[:1], s[1:]+"x", "")
	checkPieces(t, s[:longest-1], "xx", "")
	checkPieces(t, s[:longest-1], s[longest-1:], "x")
	checkPieces(t, mixed(longest), "x")
	checkPieces(t, mixed(longest+1), "x")
	checkPieces(t, mixed(1<<20), "x")

	whole := wantStream(h, everyKind())
	r := wire.New()
	got, err := r.Feed(whole + strings.Repeat("x", longest+1-len(whole)))
	checkSteps(t, "too many at once", got, err, nil, api.ErrLong)
	checkState(t, "too many at once", r, 0, false)

	r = wire.New()
	r.Feed(whole)
	got, err = r.Feed(strings.Repeat("x", longest+1-len(whole)))
	checkSteps(t, "too many behind the end", got, err, nil, api.ErrLong)
	checkState(t, "too many behind the end", r, len(whole), false)

	r = wire.New()
	r.Feed(whole)
	got, err = r.Feed(strings.Repeat("x", longest-len(whole)))
	checkSteps(t, "many behind the end", got, err, nil, api.ErrState)
	got, err = r.Feed("x")
	checkSteps(t, "one too many for one that is wrong", got, err, nil, api.ErrState)

	// What waits counts, too.
	first := wantParts(h, nil)[0]
	r = wire.New()
	r.Feed(first + recordStart(18, 1, 8000) + mixed(5000))
	got, err = r.Feed(mixed(longest + 1 - len(first) - recordHead - 5000))
	checkSteps(t, "too many behind what waits", got, err, nil, api.ErrLong)
	checkState(t, "too many behind what waits", r, len(first), false)
}

// Too many bytes are told of ahead of anything that is wrong in them. P15.1
func TestDecodeOfTooManyBytes(t *testing.T) {
	for _, f := range faults()[:40] {
		checkDecodeErr(t, f.bytes+strings.Repeat("x", longest+1-len(f.bytes)), api.ErrLong)
		checkDecodeErr(t, f.bytes+strings.Repeat("x", longest-len(f.bytes)), f.want)
	}
	s := wantStream(someHead(), sized(longest))
	checkDecoded(t, s, someHead(), sized(longest))
	checkDecodeErr(t, s+"x", api.ErrLong)
	checkDecodeErr(t, "", api.ErrForm)
}

// P15.3
func TestResume(t *testing.T) {
	l := everyKind()
	s := wantStream(someHead(), l)
	g := read(s)
	for n := range len(s) + 1 {
		r, err := wire.Resume(s[:n])
		i := slices.Index(g.ends, n)
		if n != 0 && i < 0 {
			if r != nil || err != api.ErrForm {
				t.Errorf("of %d bytes: %v, %d", n, r != nil, err)
			}
			continue
		}
		if r == nil || err != api.OK {
			t.Fatalf("of %d bytes: %d", n, err)
		}
		checkState(t, "resumed", r, n, n == len(s))
		m := &model{}
		m.feed(s[:n])
		checkFed(t, r, m, "", s[n:], "", "x", "")
		for _, f := range faults()[:40] {
			r, _ := wire.Resume(s[:n])
			m := &model{}
			m.feed(s[:n])
			checkFed(t, r, m, f.bytes, "x")
		}
	}
}

// Bytes that it was begun with count. P15.3, P15.2
func TestResumedHearsNoMoreThanAStream(t *testing.T) {
	s := wantStream(someHead(), sized(longest))
	for _, n := range read(s).ends {
		r, err := wire.Resume(s[:n])
		if err != api.OK {
			t.Fatal(n, err)
		}
		m := &model{}
		m.feed(s[:n])
		checkFed(t, r, m, s[n:]+"x", "")
		r, _ = wire.Resume(s[:n])
		m = &model{}
		m.feed(s[:n])
		checkFed(t, r, m, s[n:], "", "x")
	}
	for _, s := range []string{s + "x", mixed(longest), mixed(longest + 1), wantStream(someHead(), sized(longest+1))} {
		if r, err := wire.Resume(s); r != nil || err != api.ErrForm {
			t.Errorf("of %d bytes: %v, %d", len(s), r != nil, err)
		}
	}
}

// Readers of the same bytes go their own ways. P15.3
func TestReadersGoTheirOwnWays(t *testing.T) {
	p := wantParts(someHead(), everyKind())
	ahead := p[0] + p[1]
	one, _ := wire.Resume(ahead)
	two, _ := wire.Resume(ahead)
	three := wire.New()
	three.Feed(ahead)
	one.Feed("broken, for ever: a long text that is no record of a stream")
	m := &model{}
	m.feed(ahead)
	again := *m
	checkFed(t, two, m, strings.Join(p[2:], ""))
	checkFed(t, three, &again, strings.Join(p[2:], ""))
	if one.Over() || !two.Over() || !three.Over() {
		t.Error(one.Over(), two.Over(), three.Over())
	}
}

// P15.4
func TestNoBeginningIsAStream(t *testing.T) {
	for _, l := range [][]cmd.Cmd{nil, everyKind()} {
		s := wantStream(someHead(), l)
		for n := range len(s) {
			checkDecodeErr(t, s[:n], api.ErrForm)
		}
	}
}

// turn turns the bits of pattern in s, from bit number at on.
func turn(s string, at int, pattern uint32) string {
	b := []byte(s)
	for i := range 32 {
		if pattern>>i&1 == 1 {
			b[(at+i)/8] ^= 1 << ((at + i) % 8)
		}
	}
	return string(b)
}

// P15.4
func TestTurnedBits(t *testing.T) {
	rng := rand.New(rand.NewSource(32))
	for _, l := range [][]cmd.Cmd{nil, {{Kind: 4, Ino: 2, Src: 1, Name: "a"}, {Kind: 8, Ino: 2, Data: "bytes"}}} {
		s := wantStream(someHead(), l)
		for at := range 8 * len(s) {
			checkTurned(t, turn(s, at, 1))
		}
		from := 0
		for _, end := range read(s).ends {
			for range 2000 {
				checkTurned(t, turn(s, 8*from+rng.Intn(8*(end-from)-31), rng.Uint32()|1))
			}
			from = end
		}
	}
}

func checkTurned(t *testing.T, s string) {
	t.Helper()
	checkDecode(t, s)
	if _, _, err := wire.Decode(s); err == api.OK {
		t.Errorf("turned: %x is a stream", s)
	}
}

// The end's digest tells what the records' sums don't: a record put in the place of another one, taken out, doubled, or moved, sealed again. P15.4
func TestRecordsOfAnotherStream(t *testing.T) {
	h := someHead()
	l := everyKind()
	right := wantParts(h, l)
	end := right[len(right)-1]
	others := [][]cmd.Cmd{slices.Concat(l[:3], l[4:], l[:1]), slices.Concat(l[1:], l[:1])}
	for i := range l {
		x := slices.Clone(l)
		x[i] = cmd.Cmd{Kind: 10, Ino: 12345}
		others = append(others, x)
	}
	for _, x := range others {
		p := wantParts(h, x)
		p[len(p)-1] = end
		checkDecodeErr(t, strings.Join(p, ""), api.ErrCorrupt)
		checkDecode(t, strings.Join(p, ""))
	}
	for _, other := range []wire.Head{{Parent: h.Child, Child: h.Child, Next: h.Next}, {Parent: h.Parent, Child: h.Parent, Next: h.Next}, {Parent: h.Parent, Child: h.Child, Next: h.Next + 1}} {
		p := wantParts(other, l)
		p[len(p)-1] = end
		checkDecodeErr(t, strings.Join(p, ""), api.ErrCorrupt)
	}
	short := wantParts(h, l[:9])
	short[len(short)-1] = rec(2, len(short)-1, end[recordHead:len(end)-recordSum])
	checkDecodeErr(t, strings.Join(short, ""), api.ErrCorrupt)
}
