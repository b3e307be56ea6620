package treap

import (
	"slices"
	"strconv"
	"testing"
)

// ranked is a leaf of a rank that isn't its key's own: no two keys of one rank are known.
func ranked(key, rank string) *tree[entry] {
	t := pair(key, "value of "+key)
	t.rank = rank
	return t
}

// shape tells a tree with all its tops, from the left to the right.
func shape(t *tree[entry]) string {
	if t == nil {
		return ""
	}
	return "(" + shape(t.left) + t.key + shape(t.right) + ")"
}

// wantShape is the words' one: of the greatest rank the least key, by rising keys.
func wantShape(leaves []*tree[entry]) string {
	if len(leaves) == 0 {
		return ""
	}
	top := 0
	for i, t := range leaves {
		if t.rank > leaves[top].rank {
			top = i
		}
	}
	return "(" + wantShape(leaves[:top]) + leaves[top].key + wantShape(leaves[top+1:]) + ")"
}

func checkTree(t *testing.T, how string, got *tree[entry], leaves []*tree[entry]) {
	t.Helper()
	if want := wantShape(leaves); shape(got) != want {
		t.Fatalf("%s: %s, want %s", how, shape(got), want)
	}
	if want := build(leaves); loadOf(got) != loadOf(want) {
		t.Fatalf("%s: another name than of a tree that's built", how)
	}
}

// orders tells all orders of the numbers below n.
func orders(n int, tell func([]int)) {
	row := make([]int, 0, n)
	var more func()
	more = func() {
		if len(row) == n {
			tell(slices.Clone(row))
			return
		}
		for i := range n {
			if !slices.Contains(row, i) {
				row = append(row, i)
				more()
				row = row[:len(row)-1]
			}
		}
	}
	more()
}

// Of several keys of the greatest rank the least one is on top. P8.1, P8.2, P8.3
func TestKeysOfOneRank(t *testing.T) {
	for _, ranks := range []string{"r", "rr", "rrrrrr", "ababab", "bababa", "aabbaa", "bbaabb", "abccba", "cbaabc"} {
		var leaves []*tree[entry]
		for i, r := range ranks {
			leaves = append(leaves, ranked(strconv.Itoa(i), string(r)))
		}
		checkTree(t, "built", build(leaves), leaves)
		orders(len(leaves), func(order []int) {
			var top *tree[entry]
			for _, i := range order {
				top = put(top, leaves[i])
			}
			checkTree(t, "put", top, leaves)
			for i, x := range leaves {
				checkTree(t, "put again", put(top, leaves[i]), leaves)
				checkTree(t, "dropped", drop(top, x.key), slices.Delete(slices.Clone(leaves), i, i+1))
			}
			for _, i := range order[:len(order)/2] {
				top = drop(top, leaves[i].key)
			}
			rest := slices.Clone(order[len(order)/2:])
			slices.Sort(rest)
			var left []*tree[entry]
			for _, i := range rest {
				left = append(left, leaves[i])
			}
			checkTree(t, "half dropped", top, left)
		})
	}
}

// Put and Del make the trees on the way to a key anew, and take all others as they are: a map of many keys is changed as fast as one of few. P8.1
func TestTreesAreShared(t *testing.T) {
	var m *Map
	for i := range 200 {
		m = m.Put(strconv.Itoa(i), "v")
	}
	for i := range 200 {
		if n := strangers(m, m.Put(strconv.Itoa(i), "w")); n > 40 {
			t.Errorf("Put of a value makes %d trees", n)
		}
		if n := strangers(m, m.Del(strconv.Itoa(i))); n > 40 {
			t.Errorf("Del makes %d trees", n)
		}
	}
	if n := strangers(m, m.Del("none")); n != 0 {
		t.Errorf("Del of a key that isn't there makes %d trees", n)
	}
}

// strangers: how many trees of b aren't of a, in memory.
func strangers(a, b *Map) int {
	held := map[*tree[entry]]bool{}
	walk(a.top, func(t *tree[entry]) { held[t] = true })
	n := 0
	walk(b.top, func(t *tree[entry]) {
		if !held[t] {
			n++
		}
	})
	return n
}

// Diff holds values against each other, and Shared names: where unlike trees had one name they'd answer so. P8.2
func TestTreesOfOneName(t *testing.T) {
	forged := func(key, value string) *Map {
		x := *pair(key, value)
		x.load.name = "forged"
		return &Map{&x}
	}
	a, b, c := forged("a", "1"), forged("a", "2"), forged("c", "1")
	if l := Diff(a, b); !slices.Equal(l, []string{"a"}) {
		t.Errorf("Diff of two values = %q", l)
	}
	if l := Diff(a, c); !slices.Equal(l, []string{"a", "c"}) {
		t.Errorf("Diff of two keys = %q", l)
	}
	if Shared(a, b) != 1 || Shared(a, c) != 1 {
		t.Error("Shared of one name")
	}
}
