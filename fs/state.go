package fs

import (
	"slices"

	"snapferry/api"
	"snapferry/name"
	"snapferry/node"
	"snapferry/treap"
)

const (
	inoSize = 4
	maxIno  = 1<<31 - 1
)

// state: a file system as it is at one time. It never changes: what is done makes another one, so that what fails leaves nothing behind.
type state struct {
	nodes *treap.Map
	next  int
}

// place: a path's parent, and its last name.
type place struct {
	ino  int
	dir  api.Node
	last string
}

func (s state) node(ino int) (api.Node, bool) {
	if ino < api.Root || ino > maxIno { // its key would be another one's
		return api.Node{}, false
	}
	text, there := s.nodes.Get(keyOf(ino))
	if !there {
		return api.Node{}, false
	}
	x, err := node.Parse(text)
	return x, err == api.OK
}

func (s state) inos() []int {
	keys := s.nodes.Keys()
	inos := make([]int, 0, len(keys))
	for _, key := range keys {
		ino, _ := inoOf(key)
		inos = append(inos, ino)
	}
	return inos
}

// with: x, which must be right so that it has a text, stands under that number.
func (s state) with(ino int, x api.Node) state {
	text, _ := node.Print(x)
	s.nodes = s.nodes.Put(keyOf(ino), text)
	return s
}

func (s state) without(ino int) state {
	s.nodes = s.nodes.Del(keyOf(ino))
	return s
}

// find: a path's node.
func (s state) find(path string) (int, api.Node, api.Errno) {
	names, err := name.Split(path)
	if err != api.OK {
		return 0, api.Node{}, err
	}
	ino := api.Root
	x, _ := s.node(ino)
	for _, step := range names {
		if x.Kind != api.Dir {
			return 0, api.Node{}, api.ErrNotDir
		}
		var there bool
		ino, there = node.Find(x, step)
		if !there {
			return 0, api.Node{}, api.ErrNone
		}
		x, _ = s.node(ino)
	}
	return ino, x, api.OK
}

// file: a path's node, which is a file.
func (s state) file(path string) (int, api.Node, api.Errno) {
	ino, x, err := s.find(path)
	switch {
	case err != api.OK:
		return 0, api.Node{}, err
	case x.Kind == api.Dir:
		return 0, api.Node{}, api.ErrIsDir
	case x.Kind != api.File:
		return 0, api.Node{}, api.ErrKind
	}
	return ino, x, api.OK
}

// place: where a path's last name stands, or might.
func (s state) place(path string) (place, api.Errno) {
	parent, last, err := name.Parent(path)
	switch err {
	case api.OK:
	case api.ErrState:
		return place{}, api.ErrExists
	default:
		return place{}, err
	}
	ino, dir, err := s.find(parent)
	switch {
	case err != api.OK:
		return place{}, err
	case dir.Kind != api.Dir:
		return place{}, api.ErrNotDir
	}
	return place{ino, dir, last}, api.OK
}

// gap: a path's place, which hasn't that name.
func (s state) gap(path string) (place, api.Errno) {
	at, err := s.place(path)
	if err != api.OK {
		return place{}, err
	}
	if _, there := node.Find(at.dir, at.last); there {
		return place{}, api.ErrExists
	}
	return at, api.OK
}

// enter: a node gets an entry at a path's place.
func (s state) enter(path string, ino int) (state, api.Errno) {
	at, err := s.place(path)
	if err != api.OK {
		return state{}, err
	}
	dir, err := node.With(at.dir, at.last, ino)
	if err != api.OK {
		return state{}, err
	}
	return s.with(at.ino, dir), api.OK
}

// leave: the entry at a path's place goes, its node stays.
func (s state) leave(path string) (state, api.Errno) {
	at, err := s.place(path)
	if err != api.OK {
		return state{}, err
	}
	dir, err := node.Without(at.dir, at.last)
	if err != api.OK {
		return state{}, err
	}
	return s.with(at.ino, dir), api.OK
}

// isNamed: does any entry name a node?
func (s state) isNamed(ino int) bool {
	namesIt := func(e api.Entry) bool { return e.Ino == ino }
	return slices.ContainsFunc(s.inos(), func(dir int) bool {
		x, _ := s.node(dir)
		return slices.ContainsFunc(x.Entries, namesIt)
	})
}

// height: how many names the longest path has that leads on from a node.
func (s state) height(x api.Node) int {
	most := 0
	for _, e := range x.Entries {
		below, _ := s.node(e.Ino)
		most = max(most, 1+s.height(below))
	}
	return most
}

func isFull(dir api.Node) bool { return len(dir.Entries) >= api.MaxEntries }

func isPath(path string) bool {
	_, err := name.Split(path)
	return err == api.OK
}

// keyOf: a number's key in a file system's map.
func keyOf(ino int) string {
	return string([]byte{byte(ino >> 24), byte(ino >> 16), byte(ino >> 8), byte(ino)})
}

// inoOf: and back; is it a node's number?
func inoOf(key string) (int, bool) {
	if len(key) != inoSize {
		return 0, false
	}
	var ino uint32
	for i := range len(key) {
		ino = ino<<8 | uint32(key[i])
	}
	return int(ino), ino >= api.Root && ino <= maxIno
}
