package fs

import (
	"maps"
	"slices"

	"snapferry/api"
	"snapferry/node"
	"snapferry/treap"
)

// Sound: is a map?
func Sound(m *treap.Map) bool {
	if m.Len() > api.MaxNodes {
		return false
	}
	nodes, ok := readNodes(m)
	if !ok || nodes[api.Root].Kind != api.Dir {
		return false
	}
	if !areNamedRightly(nodes) {
		return false
	}
	reached := map[int]bool{}
	return reach(nodes, api.Root, 0, reached) && len(reached) == len(nodes)
}

// readNodes: the nodes under their numbers; false, if a key is no number of one, or a value no text of one.
func readNodes(m *treap.Map) (map[int]api.Node, bool) {
	nodes := map[int]api.Node{}
	for _, key := range m.Keys() {
		ino, isNumber := inoOf(key)
		text, _ := m.Get(key)
		x, err := node.Parse(text)
		if !isNumber || err != api.OK {
			return nil, false
		}
		nodes[ino] = x
	}
	return nodes, true
}

// areNamedRightly: does each entry name a node that is there, and has each node so many entries as it may have?
func areNamedRightly(nodes map[int]api.Node) bool {
	inos := slices.Sorted(maps.Keys(nodes))
	namings := map[int]int{}
	for _, ino := range inos {
		for _, e := range nodes[ino].Entries {
			if _, there := nodes[e.Ino]; !there {
				return false
			}
			namings[e.Ino]++
		}
	}
	hasWrong := func(ino int) bool { return !mayBeNamed(ino, nodes[ino].Kind, namings[ino]) }
	return !slices.ContainsFunc(inos, hasWrong)
}

// mayBeNamed: may so many entries name a node?
func mayBeNamed(ino, kind, times int) bool {
	switch {
	case ino == api.Root:
		return times == 0
	case kind == api.Dir:
		return times == 1
	}
	return times > 0
}

// reach marks what can be come to from a node on; is no path there too long? Where nodes are named rightly it goes through each entry once.
func reach(nodes map[int]api.Node, ino, depth int, reached map[int]bool) bool {
	if depth > api.MaxDepth {
		return false
	}
	reached[ino] = true
	for _, e := range nodes[ino].Entries {
		if !reach(nodes, e.Ino, depth+1, reached) {
			return false
		}
	}
	return true
}
