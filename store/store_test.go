package store_test

import (
	"bytes"
	"crypto/sha256"
	"encoding/binary"
	"math"
	"math/rand"
	"slices"
	"strings"
	"testing"
	"unsafe"

	"snapferry/api"
	"snapferry/store"
)

const most = 1 << 30

// wantName is the words' one, by the library's SHA-256.
func wantName(tag byte, data string) string {
	text := binary.BigEndian.AppendUint32([]byte{tag}, uint32(len(data)))
	d := sha256.Sum256(append(text, data...))
	return string(d[:])
}

func newStore(t *testing.T, room int) *store.Store {
	t.Helper()
	s, err := store.New(room)
	if s == nil || err != api.OK {
		t.Fatalf("New(%d) = %v, %d", room, s, err)
	}
	return s
}

func put(t *testing.T, s *store.Store, tag byte, data string) string {
	t.Helper()
	got, err := s.Put(tag, data)
	if want := wantName(tag, data); got != want || err != api.OK {
		t.Errorf("Put(%d, %.40q) = %x, %d, want %x", tag, data, got, err, want)
	}
	return got
}

func checkNoPut(t *testing.T, s *store.Store, tag byte, data string, want api.Errno) {
	t.Helper()
	names, taken := s.Names(), s.Taken()
	if got, err := s.Put(tag, data); got != "" || err != want {
		t.Errorf("Put(%d, %.40q) = %x, %d, want nothing, %d", tag, data, got, err, want)
	}
	if s.Taken() != taken || !slices.Equal(s.Names(), names) {
		t.Errorf("Put(%d, %.40q) was refused, and something has changed", tag, data)
	}
}

func checkGet(t *testing.T, s *store.Store, tag byte, name, want string) {
	t.Helper()
	if got, err := s.Get(tag, name); got != want || err != api.OK {
		t.Errorf("Get(%d, %x) = %.40q, %d, want %.40q", tag, name, got, err, want)
	}
	checkHas(t, s, name, true)
}

func checkNoGet(t *testing.T, s *store.Store, tag byte, name string, want api.Errno) {
	t.Helper()
	if got, err := s.Get(tag, name); got != "" || err != want {
		t.Errorf("Get(%d, %x) = %.40q, %d, want nothing, %d", tag, name, got, err, want)
	}
	checkHas(t, s, name, want == api.ErrKind)
}

func checkHas(t *testing.T, s *store.Store, name string, want bool) {
	t.Helper()
	if s.Has(name) != want {
		t.Errorf("Has(%x) = %v", name, !want)
	}
}

func checkKeep(t *testing.T, s *store.Store, names []string, want int) {
	t.Helper()
	if got := s.Keep(names); got != want {
		t.Errorf("Keep of %d names = %d, want %d", len(names), got, want)
	}
}

func checkTaken(t *testing.T, s *store.Store, want int) {
	t.Helper()
	if s.Taken() != want {
		t.Errorf("Taken() = %d, want %d", s.Taken(), want)
	}
}

// checkNames: are those names there, and no more?
func checkNames(t *testing.T, s *store.Store, want ...string) {
	t.Helper()
	want = slices.Sorted(slices.Values(want))
	if got := s.Names(); !slices.Equal(got, want) {
		t.Errorf("Names() = %x, want %x", got, want)
	}
	for _, name := range want {
		checkHas(t, s, name, true)
	}
}

// The chapter's example. P7.1
func TestChaptersExample(t *testing.T) {
	s := newStore(t, 40)
	put(t, s, 1, "12345678")
	for _, other := range []string{"", "1", "12345679", "123456789"} {
		checkNoPut(t, s, 1, other, api.ErrNoSpace)
	}
	checkNoPut(t, s, 2, "12345678", api.ErrNoSpace)
}

// P7.1
func TestNew(t *testing.T) {
	for _, room := range []int{-1, -2, math.MinInt32, math.MinInt, most + 1, most + 2, 1 << 31, 1 << 32, 1<<32 + 1, math.MaxInt} {
		if s, err := store.New(room); s != nil || err != api.ErrRange {
			t.Errorf("New(%d) = %v, %d", room, s, err)
		}
	}
	for _, room := range []int{0, 1, 31, 32, 33, 40, 1 << 20, most - 1, most} {
		s := newStore(t, room)
		checkTaken(t, s, 0)
		checkNames(t, s)
		checkHas(t, s, "", false)
		checkNoGet(t, s, 0, "", api.ErrNone)
		checkNoGet(t, s, 0, wantName(0, ""), api.ErrNone)
		checkKeep(t, s, nil, 0)
	}
}

// Stores of their own know nothing of one another. P7.1
func TestNewIsItsOwn(t *testing.T) {
	a, b := newStore(t, 100), newStore(t, 100)
	name := put(t, a, 1, "x")
	checkNoGet(t, b, 1, name, api.ErrNone)
	checkTaken(t, b, 0)
}

// P7.1, P7.3
func TestPutIsGot(t *testing.T) {
	s := newStore(t, most)
	texts := []string{"", "\x00", "\x00\x00", "a", "ab", "\xff\xfe", "é", strings.Repeat("x", 31), strings.Repeat("x", 32), strings.Repeat("x", 33), strings.Repeat("\x80", 64), strings.Repeat("abc", 100000)}
	taken := 0
	for _, tag := range []byte{0, 1, 7, 128, 255} {
		for _, data := range texts {
			name := put(t, s, tag, data)
			taken += len(data) + 32
			checkTaken(t, s, taken)
			checkGet(t, s, tag, name, data)
		}
	}
	for _, tag := range []byte{0, 1, 7, 128, 255} { // and when all are there
		for _, data := range texts {
			checkGet(t, s, tag, wantName(tag, data), data)
		}
	}
}

// P7.1
func TestRoomIsFilledJust(t *testing.T) {
	for _, n := range []int{0, 1, 7, 8, 31, 32, 33, 100, 4096} {
		data := strings.Repeat("d", n)
		checkNoPut(t, newStore(t, n+31), 3, data, api.ErrNoSpace)
		checkNoPut(t, newStore(t, n), 3, data, api.ErrNoSpace)
		s := newStore(t, n+32)
		name := put(t, s, 3, data)
		checkTaken(t, s, n+32)
		checkGet(t, s, 3, name, data)
		checkNoPut(t, s, 3, data+"x", api.ErrNoSpace)
		checkNoPut(t, s, 4, "", api.ErrNoSpace)
	}
}

// P7.1
func TestRoomOfTwo(t *testing.T) {
	for room := 32 + 5 + 32; room < 32+5+32+10; room++ {
		for n := range 12 {
			s := newStore(t, room)
			first := put(t, s, 1, "first")
			second := strings.Repeat("s", n)
			if 37+n+32 > room {
				checkNoPut(t, s, 1, second, api.ErrNoSpace)
				checkNames(t, s, first)
				checkTaken(t, s, 37)
				continue
			}
			checkNames(t, s, first, put(t, s, 1, second))
			checkTaken(t, s, 37+n+32)
		}
	}
}

// P7.1
func TestNoRoomAtAll(t *testing.T) {
	for _, room := range []int{0, 1, 31} {
		s := newStore(t, room)
		for _, data := range []string{"", "a", strings.Repeat("a", 100)} {
			checkNoPut(t, s, 0, data, api.ErrNoSpace)
			checkNoGet(t, s, 0, wantName(0, data), api.ErrNone)
		}
		checkTaken(t, s, 0)
	}
}

// What was refused for want of room doesn't take any. P7.1
func TestRefusedTakesNoRoom(t *testing.T) {
	s := newStore(t, 100)
	for range 10 {
		checkNoPut(t, s, 1, strings.Repeat("x", 69), api.ErrNoSpace)
	}
	put(t, s, 1, strings.Repeat("x", 68))
	checkTaken(t, s, 100)
}

// P7.1, P7.3
func TestSameObjectIsThereOnce(t *testing.T) {
	s := newStore(t, 37)
	name := put(t, s, 7, "hello")
	for range 3 { // in a store that's full, too
		if again := put(t, s, 7, "hello"); again != name {
			t.Errorf("Put again = %x, want %x", again, name)
		}
		checkNames(t, s, name)
		checkTaken(t, s, 37)
	}
	checkKeep(t, s, nil, 1)
	checkNoGet(t, s, 7, name, api.ErrNone)
}

// P7.1
func TestTagsMakeOtherObjects(t *testing.T) {
	s := newStore(t, most)
	var names []string
	for tag := range 256 {
		names = append(names, put(t, s, byte(tag), "hello"))
		checkTaken(t, s, (tag+1)*37)
	}
	checkNames(t, s, names...)
	for tag := range 256 {
		for other := range 256 {
			if other == tag {
				checkGet(t, s, byte(tag), names[tag], "hello")
			} else if got, err := s.Get(byte(other), names[tag]); got != "" || err != api.ErrKind {
				t.Errorf("Get of the tag %d as %d = %q, %d", tag, other, got, err)
			}
		}
	}
}

// P7.1
func TestGetRefused(t *testing.T) {
	s := newStore(t, 1000)
	name := put(t, s, 7, "hello")
	put(t, s, 7, "")
	strange := []string{"", "x", "hello", name[:31], name[1:], name + "\x00", name + name, strings.Repeat("\x00", 32), wantName(7, "hell"), wantName(8, "hello"), wantName(0, ""), name[:31] + string([]byte{name[31] ^ 1}), string([]byte{name[0] ^ 128}) + name[1:]}
	for _, other := range strange {
		for _, tag := range []byte{0, 7, 8, 255} {
			checkNoGet(t, s, tag, other, api.ErrNone)
		}
	}
	checkNoGet(t, s, 8, name, api.ErrKind)
	checkNoGet(t, s, 0, wantName(7, ""), api.ErrKind)
	checkGet(t, s, 7, name, "hello")
	checkGet(t, s, 7, wantName(7, ""), "")
}

// fill puts texts, and answers their names.
func fill(t *testing.T, s *store.Store, tag byte, texts ...string) []string {
	t.Helper()
	var names []string
	for _, data := range texts {
		names = append(names, put(t, s, tag, data))
	}
	return names
}

// P7.2
func TestKeep(t *testing.T) {
	s := newStore(t, 1000)
	n := fill(t, s, 1, "", "a", "bb", "ccc", "dddd")
	checkKeep(t, s, n, 0)
	checkTaken(t, s, 5*32+10)
	checkKeep(t, s, []string{n[4], n[1], n[2]}, 2)
	checkNames(t, s, n[1], n[2], n[4])
	checkTaken(t, s, 3*32+7)
	checkNoGet(t, s, 1, n[0], api.ErrNone)
	checkNoGet(t, s, 1, n[3], api.ErrNone)
	checkNoGet(t, s, 2, n[3], api.ErrNone)
	checkGet(t, s, 1, n[1], "a")
	checkGet(t, s, 1, n[2], "bb")
	checkGet(t, s, 1, n[4], "dddd")
	checkKeep(t, s, []string{n[1], n[2], n[4]}, 0)
	checkKeep(t, s, []string{n[2]}, 2)
	checkNames(t, s, n[2])
	checkTaken(t, s, 34)
}

// P7.2
func TestKeepNone(t *testing.T) {
	for _, names := range [][]string{nil, {}, {""}, {"x", "", "ccc"}, {wantName(2, "a"), wantName(1, "aa")}} {
		s := newStore(t, 1000)
		n := fill(t, s, 1, "", "a", "bb")
		checkKeep(t, s, names, 3)
		checkNames(t, s)
		checkTaken(t, s, 0)
		for _, name := range n {
			checkNoGet(t, s, 1, name, api.ErrNone)
		}
		checkKeep(t, s, names, 0)
		checkKeep(t, s, n, 0) // what went doesn't come again
		checkNames(t, s)
	}
}

// Names that are there no more, never were, or are told twice play no part. P7.2
func TestKeepStrangeNames(t *testing.T) {
	s := newStore(t, 1000)
	n := fill(t, s, 1, "", "a", "bb", "ccc")
	checkKeep(t, s, []string{n[1], "x", n[1], "", n[3], n[1], wantName(9, "a"), n[1][:31], n[2][1:], n[2] + "\x00"}, 2)
	checkNames(t, s, n[1], n[3])
	checkKeep(t, s, []string{n[0], n[1], n[2]}, 1)
	checkNames(t, s, n[1])
	checkTaken(t, s, 33)
}

// Objects are told apart by their names, whatever their tags. P7.2
func TestKeepOfOtherTags(t *testing.T) {
	s := newStore(t, 1000)
	a, b, c := put(t, s, 1, "x"), put(t, s, 2, "x"), put(t, s, 3, "x")
	checkKeep(t, s, []string{c, a}, 1)
	checkNames(t, s, a, c)
	checkNoGet(t, s, 2, b, api.ErrNone)
	checkGet(t, s, 3, c, "x")
}

// P7.2, P7.3
func TestRoomIsFreeAgain(t *testing.T) {
	s := newStore(t, 80)
	n := fill(t, s, 1, "12345678", "abcdefgh")
	checkNoPut(t, s, 1, "ABCDEFGH", api.ErrNoSpace)
	checkKeep(t, s, n[1:], 1)
	checkNoPut(t, s, 1, "ABCDEFGHI", api.ErrNoSpace)
	other := put(t, s, 1, "ABCDEFGH")
	checkTaken(t, s, 80)
	checkNoPut(t, s, 1, "12345678", api.ErrNoSpace) // it went
	checkKeep(t, s, []string{n[1]}, 1)
	if again := put(t, s, 1, "12345678"); again != n[0] {
		t.Errorf("Put again = %x, want %x", again, n[0])
	}
	checkNames(t, s, n...)
	checkNoGet(t, s, 1, other, api.ErrNone)
	checkKeep(t, s, nil, 2)
	put(t, s, 1, strings.Repeat("x", 48))
	checkTaken(t, s, 80)
}

// P7.2
func TestNamesRise(t *testing.T) {
	s := newStore(t, most)
	var want []string
	for i := range 300 {
		want = append(want, put(t, s, byte(i), strings.Repeat("n", i/7)))
		slices.Sort(want)
		for range 2 {
			if got := s.Names(); !slices.Equal(got, want) {
				t.Fatalf("Names() of %d objects = %x, want %x", i+1, got, want)
			}
		}
	}
}

// P7.2, P7.3
func TestCopyGoesItsOwnWay(t *testing.T) {
	s := newStore(t, 110)
	a, b := put(t, s, 1, "a"), put(t, s, 2, "bb")
	c := s.Copy()
	checkNames(t, c, a, b)
	checkTaken(t, c, 67)
	checkGet(t, c, 1, a, "a")
	checkGet(t, c, 2, b, "bb")
	checkNoGet(t, c, 2, a, api.ErrKind)

	d := put(t, c, 3, "dddd") // the copy alone has it
	checkTaken(t, c, 103)
	checkNames(t, s, a, b)
	checkTaken(t, s, 67)
	checkNoGet(t, s, 3, d, api.ErrNone)

	e := put(t, s, 4, "0123456789") // it alone has it
	checkTaken(t, s, 109)
	checkNames(t, c, a, b, d)
	checkTaken(t, c, 103)
	checkNoGet(t, c, 4, e, api.ErrNone)

	checkKeep(t, c, []string{a, e}, 2)
	checkNames(t, s, a, b, e)
	checkNames(t, c, a)
	checkKeep(t, s, nil, 3)
	checkTaken(t, s, 0)
	checkGet(t, c, 1, a, "a")
	checkTaken(t, c, 33)
}

// P7.2
func TestCopyHasItsRoom(t *testing.T) {
	for _, room := range []int{0, 1, 31} {
		checkNoPut(t, newStore(t, room).Copy(), 1, "", api.ErrNoSpace)
	}
	for _, room := range []int{32, 33, 40, 73, 100} {
		for _, s := range []*store.Store{newStore(t, room).Copy(), newStore(t, room).Copy().Copy()} {
			checkNames(t, s)
			checkNoPut(t, s, 1, strings.Repeat("x", room-31), api.ErrNoSpace)
			put(t, s, 1, strings.Repeat("x", room-32))
			checkNoPut(t, s.Copy(), 2, "", api.ErrNoSpace)
			checkTaken(t, s.Copy(), room)
		}
	}
}

// P7.2
func TestCopyOfTheSame(t *testing.T) {
	s := newStore(t, 80)
	a := put(t, s, 1, "a")
	c, d := s.Copy(), s.Copy()
	put(t, c, 2, "b")
	checkNames(t, d, a)
	put(t, d, 3, "c")
	checkNames(t, s, a)
	put(t, c, 1, "a")
	checkTaken(t, c, 66)
}

// Rule 3: what is handed in stays, its spare room too, and isn't kept.
func TestArgumentsStay(t *testing.T) {
	s := newStore(t, 1000)
	n := fill(t, s, 1, "a", "bb", "ccc")
	row := []string{n[2], "x", n[0], "spare", n[1]}
	before := slices.Clone(row)
	checkKeep(t, s, row[:3], 1)
	if !slices.Equal(row, before) {
		t.Errorf("handed in %x, left %x", before, row)
	}
	row[0], row[2] = n[1], "y"
	checkNames(t, s, n[0], n[2])

	text := bytes.Repeat([]byte("d"), 40)
	data := unsafe.String(&text[0], len(text)) // whose memory the test may change, as no program's
	name := put(t, s, 2, data)
	text[0] = 'e'
	checkGet(t, s, 2, name, strings.Repeat("d", 40))
}

// Rule 3: answers are new memory.
func TestAnswersAreNew(t *testing.T) {
	s := newStore(t, 1000)
	data := strings.Repeat("data", 10)
	name, again := put(t, s, 1, data), put(t, s, 1, data)
	first, second := s.Names(), s.Names()
	got, other := mustGet(t, s, 1, name), mustGet(t, s.Copy(), 1, name)
	texts := []string{data, name, again, first[0], second[0], s.Copy().Names()[0], got, other, mustGet(t, s, 1, name)}
	for i, x := range texts {
		for _, y := range texts[:i] {
			if unsafe.StringData(x) == unsafe.StringData(y) {
				t.Errorf("the text %d is one that was there", i)
			}
		}
	}
	first[0] = "changed"
	_ = append(first[:0], "x", "y")
	checkNames(t, s, name)
	if second[0] != name {
		t.Error("two answers share memory")
	}
}

func mustGet(t *testing.T, s *store.Store, tag byte, name string) string {
	t.Helper()
	checkGet(t, s, tag, name, wantData)
	got, _ := s.Get(tag, name)
	return got
}

const wantData = "datadatadatadatadatadatadatadatadatadata"

// thing is an object of the plain model.
type thing struct {
	name, data string
	tag        byte
}

// model is a store as the words tell it, a row of objects.
type model struct {
	room   int
	things []thing
}

func (m *model) find(name string) int {
	return slices.IndexFunc(m.things, func(x thing) bool { return x.name == name })
}

func (m *model) taken() int {
	sum := 0
	for _, x := range m.things {
		sum += 32 + len(x.data)
	}
	return sum
}

func (m *model) put(tag byte, data string) (string, api.Errno) {
	x := thing{wantName(tag, data), data, tag}
	if m.find(x.name) >= 0 {
		return x.name, api.OK
	}
	if m.taken()+32+len(data) > m.room {
		return "", api.ErrNoSpace
	}
	m.things = append(m.things, x)
	return x.name, api.OK
}

func (m *model) get(tag byte, name string) (string, api.Errno) {
	i := m.find(name)
	if i < 0 {
		return "", api.ErrNone
	}
	if m.things[i].tag != tag {
		return "", api.ErrKind
	}
	return m.things[i].data, api.OK
}

func (m *model) keep(names []string) int {
	before := len(m.things)
	m.things = slices.DeleteFunc(m.things, func(x thing) bool { return !slices.Contains(names, x.name) })
	return before - len(m.things)
}

func (m *model) names() []string {
	var names []string
	for _, x := range m.things {
		names = append(names, x.name)
	}
	return slices.Sorted(slices.Values(names))
}

// pair is a store and its model.
type pair struct {
	s *store.Store
	m *model
}

func (p pair) copied() pair {
	return pair{p.s.Copy(), &model{p.m.room, slices.Clone(p.m.things)}}
}

func (p pair) check(t *testing.T, names []string) {
	t.Helper()
	if p.s.Taken() != p.m.taken() || !slices.Equal(p.s.Names(), p.m.names()) {
		t.Fatalf("%d bytes in %d objects, want %d in %d", p.s.Taken(), len(p.s.Names()), p.m.taken(), len(p.m.things))
	}
	for i, name := range names {
		if p.s.Has(name) != (p.m.find(name) >= 0) {
			t.Fatalf("Has(%x) = %v", name, p.s.Has(name))
		}
		tag := byte(i % 3)
		got, err := p.s.Get(tag, name)
		if want, wantErr := p.m.get(tag, name); got != want || err != wantErr {
			t.Fatalf("Get(%d, %x) = %q, %d, want %q, %d", tag, name, got, err, want, wantErr)
		}
	}
}

// step does to both what three bytes tell.
func (p pair) step(t *testing.T, what, which, more byte, names []string) {
	t.Helper()
	if what%4 > 0 {
		tag, data := which%3, strings.Repeat("t", int(more%12))
		got, err := p.s.Put(tag, data)
		if want, wantErr := p.m.put(tag, data); got != want || err != wantErr {
			t.Fatalf("Put(%d, %q) = %x, %d, want %x, %d", tag, data, got, err, want, wantErr)
		}
		return
	}
	var kept []string
	for i, name := range names {
		if (which^more*byte(i))%8 > 0 {
			kept = append(kept, name)
		}
	}
	if got, want := p.s.Keep(kept), p.m.keep(kept); got != want {
		t.Fatalf("Keep of %d names = %d, want %d", len(kept), got, want)
	}
}

// walk goes through stores and copies of them as the bytes tell.
func walk(t *testing.T, room int, steps []byte) {
	t.Helper()
	var names []string
	for i := range 36 {
		names = append(names, wantName(byte(i%3), strings.Repeat("t", i/3)))
	}
	names = append(names, "", "x", names[0][:31])
	s, err := store.New(room)
	if room < 0 || room > most {
		if s != nil || err != api.ErrRange {
			t.Fatalf("New(%d) = %v, %d", room, s, err)
		}
		return
	}
	pairs := []pair{{s, &model{room: room}}}
	for ; len(steps) >= 3; steps = steps[3:] {
		at := int(steps[0]>>4) % len(pairs)
		if steps[0]&15 == 15 {
			pairs = append(pairs, pairs[at].copied())
			pairs = pairs[max(0, len(pairs)-4):]
		} else {
			pairs[at].step(t, steps[0]&15, steps[1], steps[2], names)
		}
		for _, p := range pairs {
			p.check(t, names)
		}
	}
}

// P7.1, P7.2, P7.3
func TestWalksAgainstModel(t *testing.T) {
	r := rand.New(rand.NewSource(7))
	for range 60 {
		steps := make([]byte, 3*150)
		r.Read(steps)
		walk(t, r.Intn(900), steps)
	}
}

func FuzzWalk(f *testing.F) {
	f.Add(100, []byte("123abc123abc"))
	f.Add(-1, []byte("x"))
	f.Add(most, bytes.Repeat([]byte{1, 2, 3, 15, 0, 0, 0, 9, 9}, 10))
	f.Fuzz(func(t *testing.T, room int, steps []byte) {
		walk(t, room, steps[:min(len(steps), 600)])
	})
}
