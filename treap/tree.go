package treap

import (
	"strings"

	"snapferry/digest"
)

const rankTag = 2

// carried: what a key carries on top of two trees hangs on what the tops of these carry (of no keys: the zero value).
type carried[T any] interface {
	above(key string, left, right T) T
}

// tree: its shape hangs on its keys and their ranks alone; a nil one has no keys. None ever changes, so that trees may share what they have in common.
type tree[T carried[T]] struct {
	key, rank   string
	load        T
	left, right *tree[T]
}

// leaf: a tree of one key.
func leaf[T carried[T]](key string, load T) *tree[T] {
	var none T
	key = strings.Clone(key)
	return &tree[T]{key: key, rank: digest.Join(rankTag, key), load: load.above(key, none, none)}
}

// grow: t's key on top of other trees; t itself, where they are its own.
func grow[T carried[T]](t, left, right *tree[T]) *tree[T] {
	if left == t.left && right == t.right {
		return t
	}
	load := t.load.above(t.key, loadOf(left), loadOf(right))
	return &tree[T]{t.key, t.rank, load, left, right}
}

// loadOf: what a tree's top carries.
func loadOf[T carried[T]](t *tree[T]) T {
	if t == nil {
		var none T
		return none
	}
	return t.load
}

// ahead: does a's key stand above b's in a tree of both?
func ahead[T carried[T]](a, b *tree[T]) bool {
	if a.rank != b.rank {
		return a.rank > b.rank
	}
	return a.key < b.key
}

// put: t with the key of a leaf, in place of its own one, if it has that key.
func put[T carried[T]](t, with *tree[T]) *tree[T] {
	switch {
	case t == nil:
		return with
	case ahead(with, t): // so that nothing in t is that key
		lesser, greater := split(t, with.key)
		return grow(with, lesser, greater)
	case with.key < t.key:
		return grow(t, put(t.left, with), t.right)
	case with.key > t.key:
		return grow(t, t.left, put(t.right, with))
	}
	return grow(with, t.left, t.right)
}

// split: the trees of t's keys lesser and greater than one that it hasn't.
func split[T carried[T]](t *tree[T], key string) (lesser, greater *tree[T]) {
	if t == nil {
		return nil, nil
	}
	if t.key < key {
		lesser, greater = split(t.right, key)
		return grow(t, t.left, lesser), greater
	}
	lesser, greater = split(t.left, key)
	return lesser, grow(t, greater, t.right)
}

// drop: t without a key.
func drop[T carried[T]](t *tree[T], key string) *tree[T] {
	switch {
	case t == nil:
		return nil
	case key < t.key:
		return grow(t, drop(t.left, key), t.right)
	case key > t.key:
		return grow(t, t.left, drop(t.right, key))
	}
	return merge(t.left, t.right)
}

// merge: the tree of both's keys, all those of the left one lesser.
func merge[T carried[T]](left, right *tree[T]) *tree[T] {
	switch {
	case left == nil:
		return right
	case right == nil:
		return left
	case ahead(left, right):
		return grow(left, left.left, merge(left.right, right))
	}
	return grow(right, merge(left, right.left), right.right)
}

// build: the tree of leaves by rising keys.
func build[T carried[T]](leaves []*tree[T]) *tree[T] {
	if len(leaves) == 0 {
		return nil
	}
	top := 0
	for i, t := range leaves {
		if ahead(t, leaves[top]) {
			top = i
		}
	}
	return grow(leaves[top], build(leaves[:top]), build(leaves[top+1:]))
}

// find: the tree within t that has the key on top.
func find[T carried[T]](t *tree[T], key string) *tree[T] {
	for t != nil && t.key != key {
		if key < t.key {
			t = t.left
		} else {
			t = t.right
		}
	}
	return t
}

// walk tells every tree within t, by rising keys of their tops.
func walk[T carried[T]](t *tree[T], tell func(*tree[T])) {
	if t == nil {
		return
	}
	walk(t.left, tell)
	tell(t)
	walk(t.right, tell)
}
