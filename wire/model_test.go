package wire_test

import (
	"crypto/sha256"
	"encoding/binary"
	"fmt"
	"hash/crc32"
	"slices"
	"strings"
	"testing"

	"snapferry/api"
	"snapferry/cmd"
	"snapferry/wire"
)

const (
	longest    = 65536 // bytes of a stream
	recordHead = 7
	recordSum  = 4
	bareRecord = recordHead + recordSum // without a payload
	headBytes  = bareRecord + 72
	endBytes   = bareRecord + 32
	bareCmd    = bareRecord + 21 // without Name and Data
)

// What a step is.
const (
	ofHead = 1
	ofEnd  = 2
	ofCmd  = 3
)

func seal(s string) string {
	sum := crc32.Checksum([]byte(s), crc32.MakeTable(crc32.Castagnoli))
	return string(binary.LittleEndian.AppendUint32([]byte(s), sum))
}

// recordStart is what stands ahead of a payload, right or not.
func recordStart(kind, seq, length int) string {
	b := binary.BigEndian.AppendUint32([]byte{byte(kind)}, uint32(seq))
	return string(binary.BigEndian.AppendUint16(b, uint16(length)))
}

// rec is a record's bytes; its Kind may be 0.
func rec(kind, seq int, payload string) string {
	return seal(recordStart(kind, seq, len(payload)) + payload)
}

func number(n int) string { return string(binary.BigEndian.AppendUint32(nil, uint32(n))) }

func wantHeadText(h wire.Head) string { return "SNP1" + h.Parent + h.Child + number(h.Next) }

func wantCmdText(c cmd.Cmd) string {
	return number(c.Ino) + number(c.Src) + number(c.Off) + number(c.From) + number(c.N) + string([]byte{byte(len(c.Name))}) + c.Name + c.Data
}

func sum(s string) string {
	d := sha256.Sum256([]byte(s))
	return string(d[:])
}

// wantParts: a stream's records.
func wantParts(h wire.Head, l []cmd.Cmd) []string {
	parts := []string{rec(1, 0, wantHeadText(h))}
	for i, c := range l {
		parts = append(parts, rec(10+c.Kind, i+1, wantCmdText(c)))
	}
	return append(parts, rec(2, len(parts), sum(strings.Join(parts, ""))))
}

func wantStream(h wire.Head, l []cmd.Cmd) string { return strings.Join(wantParts(h, l), "") }

// withEnd puts the end behind records.
func withEnd(parts ...string) string {
	s := strings.Join(parts, "")
	return s + rec(2, len(parts), sum(s))
}

func wantHead(h wire.Head) bool {
	return len(h.Parent) == 32 && len(h.Child) == 32 && h.Next >= 2 && h.Next <= 0x7fffffff
}

// wantSteps: what a stream's reader tells.
func wantSteps(h wire.Head, l []cmd.Cmd) []wire.Step {
	steps := []wire.Step{{What: ofHead, Head: h}}
	for _, c := range l {
		steps = append(steps, wire.Step{What: ofCmd, Cmd: c})
	}
	return append(steps, wire.Step{What: ofEnd})
}

// reading is what the plain model makes of bytes: each step and behind how many bytes it is told, and the error and of how many bytes it comes.
type reading struct {
	steps []wire.Step
	ends  []int
	err   api.Errno
	errAt int
}

// read goes through all bytes at once, record by record; how they come in pieces is no matter of it, nor how many they are.
func read(s string) reading {
	var g reading
	at, ended := 0, false
	for {
		rest := s[at:]
		if ended && rest != "" {
			g.err, g.errAt = api.ErrState, at+1
			return g
		}
		if len(rest) < recordHead {
			return g
		}
		length := int(binary.BigEndian.Uint16([]byte(rest[5:7])))
		if length > 8192 {
			g.err, g.errAt = api.ErrLong, at+recordHead
			return g
		}
		size := recordHead + length + recordSum
		if len(rest) < size {
			return g
		}
		step, err := readRecord(rest[:size], len(g.steps), s[:at])
		if err != api.OK {
			g.err, g.errAt = err, at+size
			return g
		}
		at += size
		ended = step.What == ofEnd
		g.steps, g.ends = append(g.steps, step), append(g.ends, at)
	}
}

// readRecord: what the record of a number says, behind all that stands ahead of it.
func readRecord(bytes string, seq int, ahead string) (wire.Step, api.Errno) {
	body := bytes[:len(bytes)-recordSum]
	payload := body[recordHead:]
	kind := int(body[0])
	if bytes != seal(body) {
		return wire.Step{}, api.ErrCorrupt
	}
	if kind == 0 {
		return wire.Step{}, api.ErrKind
	}
	if binary.BigEndian.Uint32([]byte(body[1:5])) != uint32(seq) {
		return wire.Step{}, api.ErrSeq
	}
	if seq == 0 && kind != 1 || seq != 0 && kind != 2 && (kind < 11 || kind > 20) {
		return wire.Step{}, api.ErrKind
	}
	switch kind {
	case 1:
		if len(payload) != 72 || payload[:4] != "SNP1" {
			return wire.Step{}, api.ErrForm
		}
		h := wire.Head{Parent: payload[4:36], Child: payload[36:68], Next: int(binary.BigEndian.Uint32([]byte(payload[68:])))}
		if !wantHead(h) {
			return wire.Step{}, api.ErrForm
		}
		return wire.Step{What: ofHead, Head: h}, api.OK
	case 2:
		if payload != sum(ahead) {
			return wire.Step{}, api.ErrCorrupt
		}
		return wire.Step{What: ofEnd}, api.OK
	}
	c, err := cmd.Parse(kind-10, payload)
	if err != api.OK {
		return wire.Step{}, api.ErrForm
	}
	return wire.Step{What: ofCmd, Cmd: c}, api.OK
}

// over: does the end stand there, and nothing wrong?
func (g reading) over() bool {
	return g.err == api.OK && len(g.steps) > 0 && g.steps[len(g.steps)-1].What == ofEnd
}

// model is a reader as the words tell it: what is told hangs on all the bytes that came.
type model struct {
	came  string
	taken int
	ended bool
	wrong api.Errno
}

func (m *model) feed(s string) ([]wire.Step, api.Errno) {
	if m.wrong != api.OK {
		return nil, m.wrong
	}
	ahead := len(m.came)
	m.came += s
	if len(m.came) > longest {
		m.wrong = api.ErrLong
		return nil, m.wrong
	}
	g := read(m.came)
	var steps []wire.Step
	for i, end := range g.ends {
		if end > ahead {
			steps = append(steps, g.steps[i])
		}
		m.taken = end
		m.ended = g.steps[i].What == ofEnd
	}
	m.wrong = g.err
	return steps, m.wrong
}

func (m *model) over() bool { return m.ended && m.wrong == api.OK }

func short(x any) string { return fmt.Sprintf("%.300s", fmt.Sprintf("%+q", fmt.Sprint(x))) }

func checkSteps(t *testing.T, what string, got []wire.Step, err api.Errno, want []wire.Step, wantErr api.Errno) {
	t.Helper()
	if !slices.Equal(got, want) || err != wantErr {
		t.Errorf("%s: %d steps %s, %d, want %d steps %s, %d", what, len(got), short(got), err, len(want), short(want), wantErr)
	}
}

func checkState(t *testing.T, what string, r *wire.Reader, taken int, over bool) {
	t.Helper()
	if r.Taken() != taken || r.Over() != over {
		t.Errorf("%s: Taken() = %d, Over() = %v, want %d, %v", what, r.Taken(), r.Over(), taken, over)
	}
}

// checkFed feeds pieces to a reader and to a model, and holds all that they tell against each other.
func checkFed(t *testing.T, r *wire.Reader, m *model, pieces ...string) {
	t.Helper()
	for i, s := range pieces {
		what := fmt.Sprintf("piece %d of %d, %d bytes behind %d", i, len(pieces), len(s), len(m.came))
		want, wantErr := m.feed(s)
		got, err := r.Feed(s)
		checkSteps(t, what, got, err, want, wantErr)
		checkState(t, what, r, m.taken, m.over())
		if t.Failed() {
			return
		}
	}
}

func checkPieces(t *testing.T, pieces ...string) {
	t.Helper()
	checkFed(t, wire.New(), &model{}, pieces...)
}

// checkDecode holds what is decoded against the plain model.
func checkDecode(t *testing.T, s string) {
	t.Helper()
	g := read(s)
	wantErr := g.err
	switch {
	case len(s) > longest:
		wantErr = api.ErrLong
	case g.err == api.OK && !g.over():
		wantErr = api.ErrForm
	}
	if wantErr != api.OK {
		checkDecodeErr(t, s, wantErr)
		return
	}
	var l []cmd.Cmd
	for _, step := range g.steps[1 : len(g.steps)-1] {
		l = append(l, step.Cmd)
	}
	checkDecoded(t, s, g.steps[0].Head, l)
}

func checkDecoded(t *testing.T, s string, h wire.Head, l []cmd.Cmd) {
	t.Helper()
	if gotHead, got, err := wire.Decode(s); gotHead != h || !slices.Equal(got, l) || err != api.OK {
		t.Errorf("Decode of %d bytes %.40x = %s, %s, %d, want %s, %s", len(s), s, short(gotHead), short(got), err, short(h), short(l))
	}
}

func checkDecodeErr(t *testing.T, s string, want api.Errno) {
	t.Helper()
	if h, l, err := wire.Decode(s); h != (wire.Head{}) || len(l) != 0 || err != want {
		t.Errorf("Decode of %d bytes %.40x = %s, %s, %d, want nothing, %d", len(s), s, short(h), short(l), err, want)
	}
}

// checkEncode: what is encoded, and what is that decoded?
func checkEncode(t *testing.T, h wire.Head, l []cmd.Cmd, wantErr api.Errno) {
	t.Helper()
	want := ""
	if wantErr == api.OK {
		want = wantStream(h, l)
	}
	s, err := wire.Encode(h, l)
	if s != want || err != wantErr {
		t.Errorf("Encode(%s, %d commands %s) = %d bytes, %d, want %d bytes, %d", short(h), len(l), short(l), len(s), err, len(want), wantErr)
		return
	}
	if err == api.OK {
		checkDecoded(t, s, h, l)
	}
}
