package diff

import (
	"snapferry/api"
	"snapferry/cmd"
	"snapferry/grid"
)

// Steps of a path from p's entries to c's.
const (
	goes  complex128 = 1
	comes complex128 = 1i
)

func (x *planner) leaveEntries(ino int, node api.Node) {
	was, ok := x.stays(ino, node)
	if !ok || node.Kind != api.Dir {
		return
	}
	eachStep(was, node, goes, func(at complex128) {
		e := was.Entries[int(real(at))]
		x.add(cmd.Cmd{Kind: leave, Src: ino, Name: e.Name})
	})
}

func (x *planner) enterEntries(ino int, node api.Node) {
	if node.Kind != api.Dir {
		return
	}
	was, _ := x.stays(ino, node)
	eachStep(was, node, comes, func(at complex128) {
		e := node.Entries[int(imag(at))]
		x.add(cmd.Cmd{Kind: enter, Ino: e.Ino, Src: ino, Name: e.Name})
	})
}

// eachStep tells the point ahead of each such step of the path from one directory's entries to another's.
func eachStep(from, to api.Node, wanted complex128, told func(at complex128)) {
	// It can't fail: a directory has fewer entries than a row may have texts.
	path, _ := grid.Path(row(from), row(to))
	var at complex128
	for _, step := range path {
		if step == wanted {
			told(at)
		}
		at += step
	}
}

// row: a directory's entries as texts.
func row(dir api.Node) []string {
	texts := make([]string, len(dir.Entries))
	for i, e := range dir.Entries {
		texts[i] = e.Name + numberText(e.Ino)
	}
	return texts
}

func numberText(n int) string {
	return string([]byte{byte(n >> 24), byte(n >> 16), byte(n >> 8), byte(n)})
}
