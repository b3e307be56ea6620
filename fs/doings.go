package fs

import (
	"strings"

	"snapferry/api"
	"snapferry/chunk"
	"snapferry/name"
	"snapferry/node"
)

// The Kinds of operations.
const (
	makeFile = iota + 1
	makeDir
	makeSym
	link
	unlink
	rmdir
	rename
	write
	truncate
	clone
	chmod
)

// doings: what each Kind does to operations whose paths are paths.
func doings() map[int]func(state, Op) (state, api.Errno) {
	return map[int]func(state, Op) (state, api.Errno){
		makeFile: state.makeFile,
		makeDir:  state.makeDir,
		makeSym:  state.makeSym,
		link:     state.link,
		unlink:   state.unlink,
		rmdir:    state.rmdir,
		rename:   state.rename,
		write:    state.write,
		truncate: state.truncate,
		clone:    state.clone,
		chmod:    state.chmod,
	}
}

func hasTwoPaths(kind int) bool { return kind == link || kind == rename || kind == clone }

func (s state) makeFile(o Op) (state, api.Errno) {
	return s.create(o.A, api.Node{Kind: api.File, Mode: o.N})
}

func (s state) makeDir(o Op) (state, api.Errno) {
	return s.create(o.A, api.Node{Kind: api.Dir, Mode: o.N})
}

func (s state) makeSym(o Op) (state, api.Errno) {
	return s.create(o.A, api.Node{Kind: api.Sym, Mode: api.MaxMode, Target: o.Data})
}

// create: x is new at a path's place. Where no number is left there is no room, as a map with a greater one wouldn't be sound.
func (s state) create(path string, x api.Node) (state, api.Errno) {
	at, err := s.gap(path)
	switch {
	case err != api.OK:
		return state{}, err
	case !node.Right(x):
		return state{}, api.ErrRange
	case isFull(at.dir):
		return state{}, api.ErrLong
	case s.nodes.Len() >= api.MaxNodes || s.next > maxIno:
		return state{}, api.ErrNoSpace
	}
	ino := s.next
	s, err = s.enter(path, ino)
	if err != api.OK {
		return state{}, err
	}
	s = s.with(ino, x)
	s.next++
	return s, api.OK
}

func (s state) link(o Op) (state, api.Errno) {
	ino, x, err := s.find(o.A)
	switch {
	case err != api.OK:
		return state{}, err
	case x.Kind == api.Dir:
		return state{}, api.ErrIsDir
	}
	return s.enter(o.B, ino)
}

func (s state) unlink(o Op) (state, api.Errno) {
	ino, x, err := s.find(o.A)
	switch {
	case err != api.OK:
		return state{}, err
	case x.Kind == api.Dir:
		return state{}, api.ErrIsDir
	}
	s, err = s.leave(o.A)
	if err != api.OK {
		return state{}, err
	}
	if !s.isNamed(ino) {
		s = s.without(ino)
	}
	return s, api.OK
}

func (s state) rmdir(o Op) (state, api.Errno) {
	ino, x, err := s.find(o.A)
	switch {
	case err != api.OK:
		return state{}, err
	case x.Kind != api.Dir:
		return state{}, api.ErrNotDir
	case ino == api.Root:
		return state{}, api.ErrState
	case len(x.Entries) > 0:
		return state{}, api.ErrNotEmpty
	}
	s, err = s.leave(o.A)
	if err != api.OK {
		return state{}, err
	}
	return s.without(ino), api.OK
}

func (s state) rename(o Op) (state, api.Errno) {
	ino, x, err := s.find(o.A)
	switch {
	case err != api.OK:
		return state{}, err
	case ino == api.Root:
		return state{}, api.ErrState
	case x.Kind == api.Dir && name.Within(o.A, o.B):
		return state{}, api.ErrLoop
	}
	to, err := s.gap(o.B)
	if err != api.OK {
		return state{}, err
	}
	from, err := s.place(o.A)
	switch {
	case err != api.OK:
		return state{}, err
	case isFull(to.dir) && to.ino != from.ino:
		return state{}, api.ErrLong
	case strings.Count(o.B, "/")+s.height(x) > api.MaxDepth: // a / stands ahead of each name
		return state{}, api.ErrLong
	}
	s, err = s.leave(o.A) // first, so that its own directory, even a full one, has room
	if err != api.OK {
		return state{}, err
	}
	return s.enter(o.B, ino)
}

func (s state) write(o Op) (state, api.Errno) {
	return s.change(o.A, func(data string) (string, api.Errno) { return chunk.Put(data, o.Off, o.Data) })
}

func (s state) truncate(o Op) (state, api.Errno) {
	return s.change(o.A, func(data string) (string, api.Errno) { return chunk.Trunc(data, o.N) })
}

func (s state) clone(o Op) (state, api.Errno) {
	return s.change(o.A, func(data string) (string, api.Errno) {
		_, source, err := s.file(o.B)
		if err != api.OK {
			return "", err
		}
		return chunk.Copy(data, o.Off, source.Data, o.From, o.N)
	})
}

// change: a file has what a closure makes of its bytes.
func (s state) change(path string, by func(data string) (string, api.Errno)) (state, api.Errno) {
	ino, x, err := s.file(path)
	if err != api.OK {
		return state{}, err
	}
	x.Data, err = by(x.Data)
	if err != api.OK {
		return state{}, err
	}
	return s.with(ino, x), api.OK
}

func (s state) chmod(o Op) (state, api.Errno) {
	ino, x, err := s.find(o.A)
	if err != api.OK {
		return state{}, err
	}
	x.Mode = o.N
	if !node.Right(x) {
		return state{}, api.ErrRange
	}
	return s.with(ino, x), api.OK
}
