package cmd

import (
	"math"

	"snapferry/api"
	"snapferry/chunk"
	"snapferry/fs"
	"snapferry/node"
	"snapferry/treap"
)

// Stage: on which commands are done.
type Stage struct {
	parent *fs.FS // a copy, as what becomes of the one that was handed in plays no part
	nodes  *treap.Map
}

// New: a stage of a parent.
func New(parent *fs.FS) *Stage { return Resume(parent, parent.Map()) }

// Resume: a stage that has come to a map.
func Resume(parent *fs.FS, m *treap.Map) *Stage { return &Stage{parent.Copy(), m} }

// Map: of nodes' texts.
func (s *Stage) Map() *treap.Map { return s.nodes }

// End: its file system.
func (s *Stage) End(next int) (*fs.FS, api.Errno) { return fs.Of(s.nodes, next) }

// Do: a command. It asks of it just what its Kind names.
func (s *Stage) Do(c Cmd) api.Errno {
	switch c.Kind {
	case makeFile:
		return s.create(c.Ino, api.Node{Kind: api.File, Mode: c.N})
	case makeDir:
		return s.create(c.Ino, api.Node{Kind: api.Dir, Mode: c.N})
	case makeSym:
		return s.create(c.Ino, api.Node{Kind: api.Sym, Mode: api.MaxMode, Target: c.Data})
	case enter:
		return s.enter(c)
	case leave:
		return s.alter(c.Src, func(dir api.Node) (api.Node, api.Errno) { return node.Without(dir, c.Name) })
	case setMode:
		return s.alter(c.Ino, func(x api.Node) (api.Node, api.Errno) { return withMode(x, c.N) })
	case setSize:
		return s.alterBytes(c.Ino, func(data string) (string, api.Errno) { return chunk.Trunc(data, c.N) })
	case write:
		return s.alterBytes(c.Ino, func(data string) (string, api.Errno) { return chunk.Put(data, c.Off, c.Data) })
	case clone:
		return s.alterBytes(c.Ino, func(data string) (string, api.Errno) { return s.cloned(data, c) })
	case remove:
		return s.remove(c.Ino)
	}
	return api.ErrKind
}

func (s *Stage) create(ino int, x api.Node) api.Errno {
	if ino <= api.Root || ino > maxNumber || !node.Right(x) {
		return api.ErrRange
	}
	if _, there := s.node(ino); there {
		return api.ErrExists
	}
	if s.nodes.Len() >= api.MaxNodes {
		return api.ErrNoSpace
	}
	s.put(ino, x)
	return api.OK
}

func (s *Stage) enter(c Cmd) api.Errno {
	if c.Ino < api.Root || c.Ino > maxNumber {
		return api.ErrRange
	}
	return s.alter(c.Src, func(dir api.Node) (api.Node, api.Errno) { return node.With(dir, c.Name, c.Ino) })
}

// cloned: a file's bytes, with those of a file of the parent put into them.
func (s *Stage) cloned(data string, c Cmd) (string, api.Errno) {
	source, there := s.parent.Node(c.Src)
	if !there {
		return "", api.ErrNone
	}
	if err := fileError(source); err != api.OK {
		return "", err
	}
	return chunk.Copy(data, c.Off, source.Data, c.From, c.N)
}

func (s *Stage) remove(ino int) api.Errno {
	if _, there := s.node(ino); !there {
		return api.ErrNone
	}
	if ino == api.Root {
		return api.ErrState
	}
	s.nodes = s.nodes.Del(numberText(ino))
	return api.OK
}

// alter: a node that is there becomes what a closure makes of it.
func (s *Stage) alter(ino int, by func(x api.Node) (api.Node, api.Errno)) api.Errno {
	x, there := s.node(ino)
	if !there {
		return api.ErrNone
	}
	x, err := by(x)
	if err != api.OK {
		return err
	}
	s.put(ino, x)
	return api.OK
}

// alterBytes: likewise a file, by its bytes.
func (s *Stage) alterBytes(ino int, by func(data string) (string, api.Errno)) api.Errno {
	return s.alter(ino, func(x api.Node) (api.Node, api.Errno) {
		err := fileError(x)
		if err != api.OK {
			return api.Node{}, err
		}
		x.Data, err = by(x.Data)
		return x, err
	})
}

// node: of a number, of any that has a key.
func (s *Stage) node(ino int) (api.Node, bool) {
	if uint64(ino) > math.MaxUint32 { // its key would be another one's
		return api.Node{}, false
	}
	text, there := s.nodes.Get(numberText(ino))
	if !there {
		return api.Node{}, false
	}
	x, err := node.Parse(text)
	return x, err == api.OK
}

// put: x, which must be right so that it has a text, stands under that number.
func (s *Stage) put(ino int, x api.Node) {
	text, _ := node.Print(x)
	s.nodes = s.nodes.Put(numberText(ino), text)
}

func withMode(x api.Node, mode int) (api.Node, api.Errno) {
	x.Mode = mode
	if !node.Right(x) {
		return api.Node{}, api.ErrRange
	}
	return x, api.OK
}

// fileError: why a node's bytes aren't to be had.
func fileError(x api.Node) api.Errno {
	switch x.Kind {
	case api.File:
		return api.OK
	case api.Dir:
		return api.ErrIsDir
	}
	return api.ErrKind
}
