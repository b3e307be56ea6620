package treap_test

import (
	"bytes"
	"crypto/sha256"
	"encoding/binary"
	"maps"
	"math/rand"
	"slices"
	"strconv"
	"strings"
	"testing"
	"unsafe"

	"snapferry/api"
	"snapferry/treap"
)

// wantJoin is layer 1's one, by the library's SHA-256.
func wantJoin(tag byte, parts ...string) string {
	b := []byte{tag}
	for _, p := range parts {
		b = binary.BigEndian.AppendUint32(b, uint32(len(p)))
		b = append(b, p...)
	}
	d := sha256.Sum256(b)
	return string(d[:])
}

// model is a map as plain as can be.
type model map[string]string

func (m model) keys() []string { return slices.Sorted(maps.Keys(m)) }

func (m model) with(key, value string) model {
	other := maps.Clone(m)
	if other == nil {
		other = model{}
	}
	other[key] = value
	return other
}

func (m model) without(key string) model {
	other := maps.Clone(m)
	delete(other, key)
	return other
}

// trees: the names of all trees within the model's own, this one's last.
func (m model) trees() []string {
	names, _ := m.treesOf(m.keys())
	return names
}

func (m model) treesOf(keys []string) (all []string, name string) {
	if len(keys) == 0 {
		return nil, ""
	}
	top := 0
	for i, key := range keys {
		if wantJoin(2, key) > wantJoin(2, keys[top]) {
			top = i
		}
	}
	lesser, left := m.treesOf(keys[:top])
	greater, right := m.treesOf(keys[top+1:])
	name = wantJoin(1, keys[top], m[keys[top]], left, right)
	return append(append(lesser, greater...), name), name
}

func (m model) name() string {
	_, name := m.treesOf(m.keys())
	return name
}

func (m model) diff(other model) []string {
	var keys []string
	for key := range m {
		if value, ok := other[key]; !ok || value != m[key] {
			keys = append(keys, key)
		}
	}
	for key := range other {
		if _, ok := m[key]; !ok {
			keys = append(keys, key)
		}
	}
	return slices.Sorted(slices.Values(keys))
}

func (m model) shared(other model) int {
	held := other.trees()
	n := 0
	for _, name := range m.trees() {
		if slices.Contains(held, name) {
			n++
		}
	}
	return n
}

// made is the model's map, put in the order in which a Go map is gone through.
func (m model) made() *treap.Map {
	var t *treap.Map
	for key, value := range m {
		t = t.Put(key, value)
	}
	return t
}

func check(t *testing.T, got *treap.Map, want model) {
	t.Helper()
	if got.Len() != len(want) {
		t.Fatalf("Len() = %d, want %d", got.Len(), len(want))
	}
	if !slices.Equal(got.Keys(), want.keys()) {
		t.Fatalf("Keys() = %.80q, want %.80q", got.Keys(), want.keys())
	}
	if got.Name() != want.name() {
		t.Fatalf("Name() of %.80q = %x, want %x", want.keys(), got.Name(), want.name())
	}
	for key, value := range want {
		checkGet(t, got, key, value)
		checkNoGet(t, got, want, key+"\x00", key+key, key[:len(key)/2])
	}
	checkNoGet(t, got, want, "", "\x00", "none", "\xff\xff\xff\xff\xff")
}

func checkGet(t *testing.T, m *treap.Map, key, want string) {
	t.Helper()
	if got, ok := m.Get(key); got != want || !ok {
		t.Fatalf("Get(%.40q) = %.40q, %v, want %.40q", key, got, ok, want)
	}
}

// checkNoGet: those of the keys that the model hasn't aren't there.
func checkNoGet(t *testing.T, m *treap.Map, want model, keys ...string) {
	t.Helper()
	for _, key := range keys {
		if _, there := want[key]; there {
			continue
		}
		if got, ok := m.Get(key); got != "" || ok {
			t.Fatalf("Get(%.40q) = %.40q, %v, want none", key, got, ok)
		}
	}
}

func checkPair(t *testing.T, a, b *treap.Map, x, y model) {
	t.Helper()
	if got, want := treap.Diff(a, b), x.diff(y); !slices.Equal(got, want) {
		t.Fatalf("Diff of %.80q and %.80q = %.80q, want %.80q", x, y, got, want)
	}
	if got, want := treap.Shared(a, b), x.shared(y); got != want {
		t.Fatalf("Shared of %.80q and %.80q = %d, want %d", x, y, got, want)
	}
}

func mustOf(t *testing.T, keys, values []string) *treap.Map {
	t.Helper()
	m, err := treap.Of(keys, values)
	if err != api.OK {
		t.Fatalf("Of(%.80q, %.80q): %d", keys, values, err)
	}
	return m
}

// strange are keys and values that stand close to one another, or are no words.
func strange() []string {
	every := make([]byte, 256)
	for i := range every {
		every[i] = byte(i)
	}
	return []string{"", "\x00", "\x00\x00", "\x00\x01", "a", "a\x00", "a\xff", "aa", "ab", "b", "A", "/", "é", "e\u0301", "\x7f", "\x80", "\xff", "\xff\xff", string(every), strings.Repeat("x", 55), strings.Repeat("x", 64), strings.Repeat("x", 4096)}
}

// The chapter's example. P8.1, P8.3
func TestChaptersExample(t *testing.T) {
	var none *treap.Map
	one, other := none.Put("a", "1").Put("b", "2"), none.Put("b", "2").Put("a", "1")
	if one.Name() != other.Name() {
		t.Errorf("%x and %x", one.Name(), other.Name())
	}
	check(t, one, model{"a": "1", "b": "2"})
}

// P8.1, P8.2
func TestNoKeys(t *testing.T) {
	var none *treap.Map
	of, err := treap.Of(nil, []string{})
	if err != api.OK {
		t.Error(err)
	}
	for i, m := range []*treap.Map{none, of, none.Del(""), none.Put("a", "1").Del("a"), new(treap.Map), new(treap.Map).Del("a")} {
		check(t, m, nil)
		if m.Name() != "" || m.Len() != 0 || len(m.Keys()) != 0 {
			t.Errorf("%d: %x, %d, %q", i, m.Name(), m.Len(), m.Keys())
		}
		check(t, m.Del("a"), nil)
		check(t, m.Put("a", "1"), model{"a": "1"})
		check(t, m.Put("", ""), model{"": ""})
		checkPair(t, m, none, nil, nil)
		checkPair(t, m, none.Put("", ""), nil, model{"": ""})
		checkPair(t, none.Put("", ""), m, model{"": ""}, nil)
	}
	if of != nil || none.Put("a", "1").Del("a") != nil {
		t.Error("the map of no keys is nil")
	}
}

// P8.1
func TestNameOfOne(t *testing.T) {
	var none *treap.Map
	for _, key := range strange() {
		for _, value := range strange() {
			if got, want := none.Put(key, value).Name(), wantJoin(1, key, value, "", ""); got != want {
				t.Errorf("the name of %.20q with %.20q = %x, want %x", key, value, got, want)
			}
		}
	}
}

// By the words, worked out by hand for both orders of the ranks. P8.1
func TestNameOfTwo(t *testing.T) {
	seen := map[bool]bool{}
	for i := range 20 {
		a, b := "a"+strconv.Itoa(i), "b"+strconv.Itoa(i)
		first := wantJoin(2, a) > wantJoin(2, b)
		want := wantJoin(1, b, "2", wantJoin(1, a, "1", "", ""), "")
		if first {
			want = wantJoin(1, a, "1", "", wantJoin(1, b, "2", "", ""))
		}
		if got := mustOf(t, []string{a, b}, []string{"1", "2"}).Name(); got != want {
			t.Errorf("the name of %s and %s = %x, want %x", a, b, got, want)
		}
		seen[first] = true
	}
	if len(seen) != 2 {
		t.Error("the keys' ranks stand in one order alone")
	}
}

// P8.1
func TestPutInPlaceOfAValue(t *testing.T) {
	want := model{}
	var m *treap.Map
	for i, key := range strange() {
		want = want.with(key, strconv.Itoa(i))
		m = m.Put(key, strconv.Itoa(i))
	}
	check(t, m, want)
	for _, key := range strange() {
		for _, value := range []string{"other", "", want[key]} {
			check(t, m.Put(key, value), want.with(key, value))
			check(t, m.Put(key, value).Put(key, want[key]), want)
		}
	}
	check(t, m, want)
}

// P8.1
func TestDel(t *testing.T) {
	want := model{}
	for i, key := range strange() {
		want[key] = strconv.Itoa(i)
	}
	m := want.made()
	for _, key := range want.keys() {
		check(t, m.Del(key), want.without(key))
		check(t, m.Del(key).Del(key), want.without(key))
		check(t, m.Del(key).Put(key, want[key]), want)
		check(t, m.Del(key+"none"), want)
	}
	for len(want) > 0 { // till there are none
		key := want.keys()[len(want)/2]
		m, want = m.Del(key), want.without(key)
		check(t, m, want)
	}
	if m != nil {
		t.Error("the map of no keys is nil")
	}
}

// A key with an empty value is there. P8.1, P8.2
func TestEmptyValues(t *testing.T) {
	var none *treap.Map
	m := none.Put("a", "").Put("", "")
	check(t, m, model{"a": "", "": ""})
	checkGet(t, m, "a", "")
	checkGet(t, m, "", "")
	if l := treap.Diff(none, m); !slices.Equal(l, []string{"", "a"}) {
		t.Errorf("%q", l)
	}
	if l := treap.Diff(m, m.Del("")); !slices.Equal(l, []string{""}) {
		t.Errorf("%q", l)
	}
}

// Keys rise byte by byte, whatever they mean. P8.1
func TestKeysRise(t *testing.T) {
	want := strange()
	slices.Sort(want)
	r := rand.New(rand.NewSource(1))
	for range 20 {
		var m *treap.Map
		for _, i := range r.Perm(len(want)) {
			m = m.Put(want[i], "")
		}
		for range 2 {
			if got := m.Keys(); !slices.Equal(got, want) {
				t.Fatalf("Keys() = %.200q", got)
			}
		}
	}
}

// The map that's asked never changes, nor does one that came of it. P8.1
func TestMapsStay(t *testing.T) {
	r := rand.New(rand.NewSource(2))
	var held []*treap.Map
	var want []model
	held, want = append(held, nil), append(want, nil)
	for range 120 {
		i := r.Intn(len(held))
		key, value := strange()[r.Intn(20)], strconv.Itoa(r.Intn(3))
		if r.Intn(3) > 0 {
			held, want = append(held, held[i].Put(key, value)), append(want, want[i].with(key, value))
		} else {
			held, want = append(held, held[i].Del(key)), append(want, want[i].without(key))
		}
	}
	for i, m := range held {
		check(t, m, want[i])
	}
	for i, m := range held {
		checkPair(t, m, held[len(held)-1-i], want[i], want[len(held)-1-i])
	}
}

// P8.2
func TestOf(t *testing.T) {
	r := rand.New(rand.NewSource(3))
	for n := range 40 {
		want := model{}
		var keys, values []string
		for _, i := range r.Perm(n) {
			keys, values = append(keys, "key"+strconv.Itoa(i)), append(values, strconv.Itoa(r.Intn(3)))
			want[keys[len(keys)-1]] = values[len(values)-1]
		}
		check(t, mustOf(t, keys, values), want)
	}
	l := strange()
	want := model{}
	for _, key := range l {
		want[key] = key
	}
	check(t, mustOf(t, l, l), want)
}

// P8.2
func TestOfRefuses(t *testing.T) {
	for i, x := range []struct{ keys, values []string }{
		{[]string{"a"}, nil},
		{nil, []string{"1"}},
		{[]string{""}, nil},
		{nil, []string{""}},
		{[]string{"a", "b"}, []string{"1"}},
		{[]string{"a"}, []string{"1", "2"}},
		{[]string{"a", "a"}, []string{"1"}},
		{[]string{"a", "a"}, []string{"1", "1"}},
		{[]string{"a", "a"}, []string{"1", "2"}},
		{[]string{"", ""}, []string{"", ""}},
		{[]string{"a", "b", "a"}, []string{"1", "2", "3"}},
		{[]string{"a", "b", "b"}, []string{"1", "2", "3"}},
		{[]string{"b", "b", "a"}, []string{"1", "2", "3"}},
		{[]string{"d", "c", "a", "b", "e", "c"}, []string{"1", "2", "3", "4", "5", "6"}},
		{strings.Split("x,a,b,c,d,e,f,g,x", ","), strange()[:9]},
	} {
		if m, err := treap.Of(x.keys, x.values); m != nil || err != api.ErrForm {
			t.Errorf("%d: Of(%q, %q) = %q, %d", i, x.keys, x.values, m.Keys(), err)
		}
	}
}

// P8.2
func TestDiff(t *testing.T) {
	maps := []model{nil, {"a": "1"}, {"a": "2"}, {"a": ""}, {"b": "1"}, {"": "1"}, {"": ""}, {"a": "1", "b": "2"}, {"a": "2", "b": "1"}, {"a": "1", "b": "2", "c": "3"}, {"b": "2", "d": "4"}, {"c": "3", "d": "4"}, {"a\x00": "1"}, {"\xff": "1", "\x80": "2", "A": "3", "é": "4"}}
	for _, x := range maps {
		for _, y := range maps {
			checkPair(t, x.made(), y.made(), x, y)
		}
	}
	var none *treap.Map
	m := none.Put("a", "1").Put("b", "2").Put("d", "4")
	other := none.Put("b", "3").Put("c", "3").Put("d", "4")
	if l := treap.Diff(m, other); !slices.Equal(l, []string{"a", "b", "c"}) {
		t.Errorf("Diff = %q", l)
	}
	if l := treap.Diff(m, m); len(l) != 0 {
		t.Errorf("Diff of a map and itself = %q", l)
	}
}

// Trees are told apart by names, so by their keys and values, not by the memory that they're in. P8.2
func TestShared(t *testing.T) {
	want := model{}
	for i := range 60 {
		want["key"+strconv.Itoa(i)] = "v"
	}
	m, again := want.made(), want.made()
	if treap.Shared(m, again) != 60 || treap.Shared(m, m) != 60 || treap.Shared(again, m) != 60 {
		t.Errorf("Shared of the same = %d", treap.Shared(m, again))
	}
	if treap.Shared(m, nil) != 0 || treap.Shared(nil, m) != 0 || treap.Shared(nil, nil) != 0 {
		t.Error("the map of no keys has no trees")
	}
	for _, key := range want.keys() {
		for _, other := range []model{want.without(key), want.with(key, "w"), want.with(key+"+", "v")} {
			checkPair(t, m, other.made(), want, other)
			checkPair(t, other.made(), m, other, want)
		}
	}
	apart := model{}
	for key := range want {
		apart[key] = "other"
	}
	if n := treap.Shared(m, apart.made()); n != 0 {
		t.Errorf("Shared of maps that share no value = %d", n)
	}
}

// orders tells all orders of the keys.
func orders(keys []string, tell func([]string)) {
	if len(keys) == 0 {
		tell(nil)
		return
	}
	for i, key := range keys {
		rest := slices.Delete(slices.Clone(keys), i, i+1)
		orders(rest, func(l []string) { tell(append([]string{key}, l...)) })
	}
}

// P8.3
func TestOneNameInAnyOrder(t *testing.T) {
	want := model{"": "0", "a": "1", "ab": "2", "b": "", "c": "1", "\xff": "x"}
	name := want.name()
	orders(want.keys(), func(keys []string) {
		var put, both *treap.Map
		var values []string
		for _, key := range keys {
			put = put.Put(key, want[key])
			both = both.Put(key+"+", "").Put(key, "other")
			values = append(values, want[key])
		}
		for _, key := range keys {
			both = both.Put(key, want[key]).Del(key + "+")
		}
		if put.Name() != name || both.Name() != name || mustOf(t, keys, values).Name() != name {
			t.Fatalf("%q have another name", keys)
		}
	})
}

// P8.3
func TestUnlikeMapsHaveUnlikeNames(t *testing.T) {
	seen := map[string]string{}
	add := func(what string, keys, values []string) {
		name := mustOf(t, keys, values).Name()
		if other, ok := seen[name]; ok {
			t.Errorf("%s has the name of %s", what, other)
		}
		seen[name] = what
	}
	add("none", nil, nil)
	texts := []string{"", "a", "b", "ab", "ba", "\x00"}
	for i, x := range texts {
		for _, v := range texts {
			what := strconv.Quote(x) + strconv.Quote(v)
			add(what, []string{x}, []string{v})
			for _, y := range texts[:i] {
				for _, w := range texts {
					add(what+strconv.Quote(y)+strconv.Quote(w), []string{x, y}, []string{v, w})
				}
			}
		}
	}
	if len(seen) != 1+36+15*36 {
		t.Errorf("%d names", len(seen))
	}
}

// Keys whose ranks fall while they rise make trees far deeper than chance does. P8.1, P8.2, P8.3
func TestDeepTrees(t *testing.T) {
	var keys, values []string
	want := model{}
	last := strings.Repeat("\xff", 32)
	for i := 0; len(keys) < 14; i++ {
		key := binary.BigEndian.AppendUint32(nil, uint32(i))
		if rank := wantJoin(2, string(key)); rank < last && rank[:1] > string([]byte{byte(240 - 17*len(keys))}) {
			keys, values, last = append(keys, string(key)), append(values, "v"), rank
			want[string(key)] = "v"
		}
	}
	m := mustOf(t, keys, values)
	check(t, m, want)
	check(t, want.made(), want)
	for i := range keys {
		check(t, m.Del(keys[i]), want.without(keys[i]))
		check(t, mustOf(t, keys[i:], values[i:]).Put(keys[0], "v"), modelOf(keys[i:]).with(keys[0], "v"))
	}
}

// modelOf: each key has the value v.
func modelOf(keys []string) model {
	m := model{}
	for _, key := range keys {
		m[key] = "v"
	}
	return m
}

// P8.1, P8.2, P8.3
func TestManyKeys(t *testing.T) {
	const many = 20000
	var keys, values []string
	var m *treap.Map
	for i := range many {
		keys, values = append(keys, strconv.Itoa(i*7919%many)), append(values, strconv.Itoa(i))
		m = m.Put(keys[i], values[i])
	}
	of := mustOf(t, keys, values)
	if m.Len() != many || of.Len() != many || m.Name() != of.Name() || !slices.IsSorted(m.Keys()) {
		t.Error("put and made at once they are unlike")
	}
	if len(treap.Diff(m, of)) != 0 || treap.Shared(m, of) != many {
		t.Error("Diff, Shared")
	}
	for _, key := range keys[:many-3] {
		m = m.Del(key)
	}
	check(t, m, model{keys[many-3]: values[many-3], keys[many-2]: values[many-2], keys[many-1]: values[many-1]})
	if len(treap.Diff(m, of)) != many-3 || of.Len() != many {
		t.Error("Diff, when all but three went")
	}
}

// Rule 3: what is handed in stays, its spare room too, and isn't kept.
func TestArgumentsStay(t *testing.T) {
	room := []string{"b", "a", "c", "spare", "room"}
	before := slices.Clone(room)
	m := mustOf(t, room[:3], room[1:4])
	if !slices.Equal(room, before) {
		t.Errorf("handed in %q, left %q", before, room)
	}
	clear(room)
	want := model{"b": "a", "a": "c", "c": "spare"}
	check(t, m, want)

	text := bytes.Repeat([]byte("d"), 40)
	data := unsafe.String(&text[0], len(text)) // whose memory the test may change, as no program's
	m = m.Put(data, data).Put("b", data)
	of := mustOf(t, []string{data}, []string{data})
	name := m.Del(data)
	text[0] = 'e'
	d := strings.Repeat("d", 40)
	check(t, m, want.with(d, d).with("b", d))
	check(t, name, want.with("b", d))
	check(t, of, model{d: d})
}

// Rule 3: answers are new memory, and no two lists share any.
func TestAnswersAreNew(t *testing.T) {
	key, value := strings.Repeat("key", 9), strings.Repeat("value", 9)
	var none *treap.Map
	m := none.Put(key, value)
	one, ok := m.Get(key)
	two, again := m.Put("x", "y").Get(key)
	if !ok || !again {
		t.Fatal("Get")
	}
	keys, other, diff, turned := m.Keys(), m.Keys(), treap.Diff(m, none), treap.Diff(none, m)
	texts := []string{key, value, one, two, m.Name(), m.Name(), keys[0], other[0], diff[0], turned[0]}
	for i, x := range texts {
		for _, y := range texts[:i] {
			if unsafe.StringData(x) == unsafe.StringData(y) {
				t.Errorf("the text %d is one that was there", i)
			}
		}
	}
	keys[0], diff[0] = "changed", "changed"
	_, _ = append(keys[:0], "x", "y"), append(diff[:0], "x", "y")
	check(t, m, model{key: value})
	if other[0] != key || turned[0] != key {
		t.Error("two answers share memory")
	}
}

// walk goes through maps as the bytes tell, each step on one of those that were there.
func walk(t *testing.T, steps []byte) {
	t.Helper()
	held, want := []*treap.Map{nil}, []model{nil}
	for ; len(steps) >= 3; steps = steps[3:] {
		i := int(steps[0]>>2) % len(held)
		key, value := strings.Repeat("k", int(steps[1]>>4))+string(steps[1]&15+'a'), string(steps[2]&3+'0')
		m, x := held[i], want[i]
		switch steps[0] & 3 {
		case 0:
			m, x = m.Del(key), x.without(key)
		default:
			m, x = m.Put(key, value), x.with(key, value)
		}
		check(t, m, x)
		checkPair(t, held[i], m, want[i], x)
		checkPair(t, m, held[0], x, want[0])
		held, want = append(held, m), append(want, x)
		held, want = held[max(0, len(held)-20):], want[max(0, len(want)-20):]
	}
	for i, m := range held {
		check(t, m, want[i])
		keys := want[i].keys()
		slices.Reverse(keys)
		var values []string
		for _, key := range keys {
			values = append(values, want[i][key])
		}
		check(t, mustOf(t, keys, values), want[i])
	}
}

// P8.1, P8.2, P8.3
func TestWalksAgainstModel(t *testing.T) {
	r := rand.New(rand.NewSource(8))
	for range 12 {
		steps := make([]byte, 3*150)
		r.Read(steps)
		if r.Intn(2) == 0 { // one map goes on and on
			for i := 0; i < len(steps); i += 3 {
				steps[i] = steps[i]&3 | 19<<2
			}
		}
		walk(t, steps)
	}
}

func FuzzWalk(f *testing.F) {
	f.Add([]byte("123abc123abc"))
	f.Add([]byte{1, 0, 0, 5, 1, 0, 9, 0, 1, 12, 0, 0})
	f.Fuzz(func(t *testing.T, steps []byte) {
		walk(t, steps[:min(len(steps), 150)])
	})
}

func BenchmarkPut(b *testing.B) {
	var m *treap.Map
	value := strings.Repeat("v", 4096)
	for i := range 256 {
		m = m.Put(strconv.Itoa(i), value)
	}
	for i := 0; b.Loop(); i++ {
		m.Put(strconv.Itoa(i%256), "other")
	}
}
