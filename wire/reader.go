package wire

import (
	"strings"

	"snapferry/api"
	"snapferry/cmd"
	"snapferry/digest"
	"snapferry/tlv"
)

// Reader: of a stream.
type Reader struct {
	records *tlv.Reader
	ahead   strings.Builder // the bytes of its records, till there is the end, whose payload hangs on them
	taken   int
	ended   bool
	wrong   api.Errno
}

// New: one that was fed nothing.
func New() *Reader { return &Reader{records: tlv.New()} }

// Feed: more bytes.
func (r *Reader) Feed(s string) ([]Step, api.Errno) {
	if r.wrong != api.OK {
		return nil, r.wrong
	}
	came := r.taken + r.records.Waiting() + len(s)
	if came > api.MaxStream {
		return nil, r.fail(api.ErrLong)
	}
	recs, recErr := r.records.Feed(s)
	var steps []Step
next:
	if r.ended && came > r.taken {
		return steps, r.fail(api.ErrState)
	}
	if len(recs) == 0 {
		if recErr != api.OK {
			r.fail(recErr)
		}
		return steps, recErr
	}
	step, err := r.hear(recs[0])
	if err != api.OK {
		return steps, r.fail(err)
	}
	steps = append(steps, step)
	recs = recs[1:]
	goto next
}

// Taken: how many bytes its records had.
func (r *Reader) Taken() int { return r.taken }

// Over: was there the end?
func (r *Reader) Over() bool { return r.ended && r.wrong == api.OK }

// Resume: one that was fed bytes.
func Resume(bytes string) (*Reader, api.Errno) {
	r := New()
	if _, err := r.Feed(bytes); err != api.OK || r.taken != len(bytes) {
		return nil, api.ErrForm
	}
	return r, api.OK
}

// fail forgets what isn't asked of a reader that is wrong.
func (r *Reader) fail(err api.Errno) api.Errno {
	*r = Reader{taken: r.taken, wrong: err}
	return err
}

// hear takes a record, if it is right at its place.
func (r *Reader) hear(x tlv.Rec) (Step, api.Errno) {
	step, err := r.stepOf(x)
	if err != api.OK {
		return Step{}, err
	}
	// A record has just one text: so those are the bytes that came.
	text, _ := tlv.Print(x)
	r.taken += len(text)
	r.ahead.WriteString(text)
	if step.What == ofEnd {
		r.ended = true
		r.ahead.Reset()
	}
	return step, api.OK
}

// stepOf: what a record says.
func (r *Reader) stepOf(x tlv.Rec) (Step, api.Errno) {
	switch {
	case x.Seq == 0 && x.Kind == headKind:
		return headStep(x.Payload)
	case x.Seq == 0:
		return Step{}, api.ErrKind
	case x.Kind == endKind:
		return r.endStep(x.Payload)
	case x.Kind > cmdKind && x.Kind <= cmdKind+cmdKinds:
		return cmdStep(x.Kind-cmdKind, x.Payload)
	}
	return Step{}, api.ErrKind
}

func headStep(payload string) (Step, api.Errno) {
	h, ok := readHead(payload)
	if !ok {
		return Step{}, api.ErrForm
	}
	return Step{What: ofHead, Head: h}, api.OK
}

func (r *Reader) endStep(payload string) (Step, api.Errno) {
	if payload != digest.Sum(r.ahead.String()) {
		return Step{}, api.ErrCorrupt
	}
	return Step{What: ofEnd}, api.OK
}

func cmdStep(kind int, payload string) (Step, api.Errno) {
	c, err := cmd.Parse(kind, payload)
	if err != api.OK {
		return Step{}, err
	}
	return Step{What: ofCmd, Cmd: c}, api.OK
}
