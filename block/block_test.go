package block_test

import (
	"math"
	"strings"
	"testing"
	"unsafe"

	"snapferry/api"
	"snapferry/block"
)

const all = math.MaxUint64

func newDisk(t *testing.T, sectors int) *block.Disk {
	t.Helper()
	d, err := block.New(sectors)
	if d == nil || err != api.OK {
		t.Fatalf("New(%d) = %v, %d", sectors, d, err)
	}
	return d
}

func padded(data string) string {
	return data + strings.Repeat("\x00", api.SectorSize-len(data))
}

func checkErr(t *testing.T, what string, got, want api.Errno) {
	t.Helper()
	if got != want {
		t.Errorf("%s = %d, want %d", what, got, want)
	}
}

func write(t *testing.T, d *block.Disk, at int, data string) {
	t.Helper()
	checkErr(t, "Write", d.Write(at, data), api.OK)
}

func flush(t *testing.T, d *block.Disk) {
	t.Helper()
	checkErr(t, "Flush", d.Flush(), api.OK)
}

func checkRead(t *testing.T, d *block.Disk, at int, want string) {
	t.Helper()
	if got, err := d.Read(at); got != padded(want) || err != api.OK {
		t.Errorf("Read(%d) = %q, %d, want %q", at, got, err, want)
	}
}

func checkReadErr(t *testing.T, d *block.Disk, at int, want api.Errno) {
	t.Helper()
	if got, err := d.Read(at); got != "" || err != want {
		t.Errorf("Read(%d) = %q, %d, want nothing, %d", at, got, err, want)
	}
}

// checkSeen: what the first sectors hold.
func checkSeen(t *testing.T, d *block.Disk, want ...string) {
	t.Helper()
	for at, data := range want {
		checkRead(t, d, at, data)
	}
}

func checkState(t *testing.T, d *block.Disk, down bool, waiting int) {
	t.Helper()
	if d.Down() != down || d.Waiting() != waiting {
		t.Errorf("Down() = %v, Waiting() = %d, want %v, %d", d.Down(), d.Waiting(), down, waiting)
	}
}

// restart: the power fails, and is on again.
func restart(d *block.Disk, keep uint64) {
	d.Crash(keep)
	d.Start()
}

// The chapter's example. P3.2
func TestChaptersExample(t *testing.T) {
	d := newDisk(t, 2)
	write(t, d, 0, "a")
	write(t, d, 1, "b")
	d.Crash(2)
	d.Start()
	checkSeen(t, d, "", "b")
}

// P3.1
func TestNew(t *testing.T) {
	for _, n := range []int{math.MinInt, -1, 0, 8193, math.MaxInt} {
		if d, err := block.New(n); d != nil || err != api.ErrRange {
			t.Errorf("New(%d) = %v, %d", n, d, err)
		}
	}
	for _, n := range []int{1, 2, 100, 8191, 8192} {
		d := newDisk(t, n)
		if d.Size() != n {
			t.Errorf("Size() = %d, want %d", d.Size(), n)
		}
		checkState(t, d, false, 0)
		for at := range n {
			checkRead(t, d, at, "")
		}
	}
}

// P3.1
func TestSizeStays(t *testing.T) {
	d := newDisk(t, 3)
	write(t, d, 2, "x")
	flush(t, d)
	d.Crash(0)
	if d.Size() != 3 {
		t.Error("Size of a disk without power")
	}
	d.Start()
	if d.Size() != 3 {
		t.Error("Size of a disk that was started")
	}
}

// P3.1
func TestFirstAndLastSector(t *testing.T) {
	for _, n := range []int{1, 2, 5, 8192} {
		d := newDisk(t, n)
		write(t, d, n-1, "last")
		write(t, d, 0, "first")
		for _, at := range []int{-1, n, n + 1, math.MinInt, math.MaxInt} {
			checkErr(t, "Write outside", d.Write(at, "x"), api.ErrRange)
			checkErr(t, "Write outside of too much", d.Write(at, strings.Repeat("x", 33)), api.ErrRange)
			checkReadErr(t, d, at, api.ErrRange)
		}
		checkState(t, d, false, 2)
		checkRead(t, d, 0, "first")
		if n > 1 {
			checkRead(t, d, n-1, "last")
		}
		for at := 1; at < n-1; at++ {
			checkRead(t, d, at, "")
		}
	}
}

// P3.1
func TestDataOfAllLengths(t *testing.T) {
	d := newDisk(t, 1)
	for n := range api.SectorSize + 1 {
		write(t, d, 0, strings.Repeat("\xff", 32))
		write(t, d, 0, strings.Repeat("x", n))
		checkRead(t, d, 0, strings.Repeat("x", n))
		flush(t, d)
		checkRead(t, d, 0, strings.Repeat("x", n))
	}
	for _, n := range []int{33, 34, 64, 1 << 20} {
		checkErr(t, "Write of too much", d.Write(0, strings.Repeat("y", n)), api.ErrLong)
	}
	checkState(t, d, false, 0)
	checkRead(t, d, 0, strings.Repeat("x", 32))
}

// P3.1
func TestBytesOfAllKinds(t *testing.T) {
	d := newDisk(t, 8)
	for at := range 8 {
		var b [32]byte
		for i := range b {
			b[i] = byte(32*at + i)
		}
		write(t, d, at, string(b[:]))
		checkRead(t, d, at, string(b[:]))
	}
}

// P3.1
func TestWriteIsSeenAtOnce(t *testing.T) {
	d := newDisk(t, 2)
	for i, data := range []string{"one", "", "two", "\x00", "three"} {
		write(t, d, 0, data)
		checkSeen(t, d, data, "")
		checkState(t, d, false, i+1)
	}
	flush(t, d)
	checkSeen(t, d, "three", "")
	checkState(t, d, false, 0)
	write(t, d, 0, "four")
	checkSeen(t, d, "four", "")
}

// P3.1
func TestWithoutPower(t *testing.T) {
	d := newDisk(t, 2)
	write(t, d, 0, "kept")
	flush(t, d)
	d.Crash(all)
	for _, at := range []int{0, 1, 2, -1} {
		checkErr(t, "Write", d.Write(at, "x"), api.ErrDown)
		checkErr(t, "Write of too much", d.Write(at, strings.Repeat("x", 33)), api.ErrDown)
		checkReadErr(t, d, at, api.ErrDown)
	}
	checkErr(t, "Flush", d.Flush(), api.ErrDown)
	checkState(t, d, true, 0)
	d.Start()
	checkState(t, d, false, 0)
	checkSeen(t, d, "kept", "")
	restart(d, all)
	checkSeen(t, d, "kept", "")
}

// Each bit of Keep alone, none and all, with 70 writes that wait. P3.2
func TestBitsOfKeep(t *testing.T) {
	const writes = 70
	for bit := -1; bit <= 64; bit++ {
		keep := uint64(all)
		if bit < 64 {
			keep = 0
			if bit >= 0 {
				keep = 1 << bit
			}
		}
		d := newDisk(t, writes)
		for at := range writes {
			write(t, d, at, "w"+string(rune('0'+at)))
		}
		checkState(t, d, false, writes)
		d.Crash(keep)
		checkState(t, d, true, 0)
		d.Start()
		for at := range writes {
			want := ""
			if at < 64 && (at == bit || bit == 64) {
				want = "w" + string(rune('0'+at))
			}
			checkRead(t, d, at, want)
		}
	}
}

// The 64th write and the 65th, of one sector and of two. P3.2
func TestKeepEndsAt64(t *testing.T) {
	for _, c := range []struct {
		writes int
		want   string
	}{{63, "63"}, {64, "64"}, {65, "64"}, {66, "64"}, {200, "64"}} {
		d := newDisk(t, 1)
		for i := range c.writes {
			write(t, d, 0, string([]byte{'0' + byte(i+1)/10, '0' + byte(i+1)%10}))
		}
		checkState(t, d, false, c.writes)
		restart(d, all)
		checkSeen(t, d, c.want)
	}
	d := newDisk(t, 2)
	for range 64 {
		write(t, d, 0, "a")
	}
	write(t, d, 1, "b")
	checkSeen(t, d, "a", "b")
	restart(d, all)
	checkSeen(t, d, "a", "")
}

// Beyond 64 writes all is seen, all counts, and a flush lets all last. P3.1, P3.2
func TestManyWritesWait(t *testing.T) {
	d := newDisk(t, 3)
	for i := range 1000 {
		write(t, d, i%2, string([]byte{byte(i), byte(i >> 8)}))
	}
	write(t, d, 2, "x")
	write(t, d, 0, "newest")
	checkState(t, d, false, 1002)
	checkSeen(t, d, "newest", string([]byte{999 & 255, 999 >> 8}), "x")
	flush(t, d)
	checkState(t, d, false, 0)
	checkSeen(t, d, "newest", string([]byte{999 & 255, 999 >> 8}), "x")
	restart(d, 0)
	checkSeen(t, d, "newest", string([]byte{999 & 255, 999 >> 8}), "x")
}

// The bits of Keep go by the order of the writes, not by sectors. P3.2
func TestOneSectorWrittenOften(t *testing.T) {
	for _, c := range []struct {
		keep        uint64
		zero, other string
	}{
		{0, "old", ""}, {1, "one", ""}, {2, "old", "two"}, {4, "three", ""}, {5, "three", ""},
		{3, "one", "two"}, {8, "four", ""}, {9, "four", ""}, {7, "three", "two"}, {all, "four", "two"}, {all &^ 15, "old", ""},
	} {
		d := newDisk(t, 2)
		write(t, d, 0, "old")
		flush(t, d)
		write(t, d, 0, "one")
		write(t, d, 1, "two")
		write(t, d, 0, "three")
		write(t, d, 0, "four")
		restart(d, c.keep)
		checkSeen(t, d, c.zero, c.other)
		checkState(t, d, false, 0)
	}
}

// What a failure dropped doesn't come again. P3.2
func TestDroppedWritesStayAway(t *testing.T) {
	d := newDisk(t, 2)
	write(t, d, 0, "a")
	write(t, d, 1, "b")
	restart(d, 0)
	checkSeen(t, d, "", "")
	restart(d, all)
	checkSeen(t, d, "", "")
	write(t, d, 1, "c")
	flush(t, d)
	checkSeen(t, d, "", "c")
	write(t, d, 0, "d")
	restart(d, 1)
	checkSeen(t, d, "d", "c")
}

// P3.2
func TestCrashWhenNothingWaits(t *testing.T) {
	d := newDisk(t, 1)
	d.Crash(all)
	checkState(t, d, true, 0)
	d.Start()
	checkSeen(t, d, "")
	write(t, d, 0, "a")
	flush(t, d)
	restart(d, all)
	checkSeen(t, d, "a")
}

// P3.2
func TestCrashWithoutPower(t *testing.T) {
	d := newDisk(t, 1)
	write(t, d, 0, "a")
	d.Crash(0)
	d.Crash(all)
	checkState(t, d, true, 0)
	d.Start()
	checkSeen(t, d, "")
	checkState(t, d, false, 0)
}

// P3.2
func TestStartWithPower(t *testing.T) {
	d := newDisk(t, 1)
	write(t, d, 0, "a")
	d.Arm(api.Cut{At: 2, Keep: 1})
	d.Start()
	checkState(t, d, false, 1)
	checkSeen(t, d, "a")
	write(t, d, 0, "b")
	checkErr(t, "Flush", d.Flush(), api.ErrDown)
	d.Start()
	d.Start()
	checkSeen(t, d, "a")
}

// Of 5 steps (a write, a write, a flush, a write, a flush) each is cut, and one behind them. P3.1, P3.2
func TestCutAtEachStep(t *testing.T) {
	for _, c := range []struct {
		cut         api.Cut
		zero, other string
	}{
		{api.Cut{At: 1, Keep: 0}, "", ""},
		{api.Cut{At: 1, Keep: 1}, "a", ""},
		{api.Cut{At: 1, Keep: 2}, "", ""},
		{api.Cut{At: 2, Keep: 0}, "", ""},
		{api.Cut{At: 2, Keep: 1}, "a", ""},
		{api.Cut{At: 2, Keep: 2}, "", "b"},
		{api.Cut{At: 2, Keep: all}, "a", "b"},
		{api.Cut{At: 3, Keep: 0}, "", ""},
		{api.Cut{At: 3, Keep: 1}, "a", ""},
		{api.Cut{At: 3, Keep: 2}, "", "b"},
		{api.Cut{At: 3, Keep: 3}, "a", "b"},
		{api.Cut{At: 4, Keep: 0}, "a", "b"},
		{api.Cut{At: 4, Keep: 1}, "c", "b"},
		{api.Cut{At: 4, Keep: 2}, "a", "b"},
		{api.Cut{At: 5, Keep: 0}, "a", "b"},
		{api.Cut{At: 5, Keep: 1}, "c", "b"},
		{api.Cut{At: 6, Keep: 0}, "c", "b"},
		{api.Cut{At: math.MaxInt, Keep: 0}, "c", "b"},
	} {
		d := newDisk(t, 2)
		d.Arm(c.cut)
		for i, step := range []func() api.Errno{
			func() api.Errno { return d.Write(0, "a") },
			func() api.Errno { return d.Write(1, "b") },
			d.Flush,
			func() api.Errno { return d.Write(0, "c") },
			d.Flush,
		} {
			want := api.OK
			if i+1 >= c.cut.At {
				want = api.ErrDown
			}
			checkErr(t, "step", step(), want)
		}
		checkState(t, d, c.cut.At <= 5, 0)
		d.Start()
		checkSeen(t, d, c.zero, c.other)
	}
}

// P3.2
func TestArmedWithNothing(t *testing.T) {
	for _, at := range []int{0, -1, math.MinInt} {
		d := newDisk(t, 1)
		d.Arm(api.Cut{At: 1, Keep: all})
		d.Arm(api.Cut{At: at, Keep: all})
		for range 5 {
			write(t, d, 0, "a")
			flush(t, d)
		}
		checkState(t, d, false, 0)
	}
}

// It is counted from the last Arm on. P3.2
func TestArmedAnew(t *testing.T) {
	d := newDisk(t, 2)
	write(t, d, 0, "before")
	d.Arm(api.Cut{At: 3, Keep: all})
	write(t, d, 0, "a")
	write(t, d, 0, "b")
	d.Arm(api.Cut{At: 2, Keep: 8})
	write(t, d, 1, "c")
	checkErr(t, "Flush", d.Flush(), api.ErrDown)
	d.Start()
	checkSeen(t, d, "", "c")
}

// P3.2
func TestRefusedWritesDoNotCount(t *testing.T) {
	d := newDisk(t, 2)
	d.Arm(api.Cut{At: 2, Keep: 2})
	write(t, d, 0, "a")
	checkErr(t, "Write outside", d.Write(2, "x"), api.ErrRange)
	checkErr(t, "Write outside", d.Write(-1, "x"), api.ErrRange)
	checkErr(t, "Write of too much", d.Write(0, strings.Repeat("x", 33)), api.ErrLong)
	d.Read(0)
	d.Read(9)
	checkState(t, d, false, 1)
	checkErr(t, "Write", d.Write(1, "b"), api.ErrDown)
	d.Start()
	checkSeen(t, d, "", "b")
}

// Armed while the power is off: what is refused for that doesn't count. P3.2
func TestArmedWithoutPower(t *testing.T) {
	d := newDisk(t, 1)
	d.Crash(0)
	d.Arm(api.Cut{At: 2, Keep: 1})
	checkErr(t, "Write", d.Write(0, "x"), api.ErrDown)
	checkErr(t, "Flush", d.Flush(), api.ErrDown)
	checkErr(t, "Flush", d.Flush(), api.ErrDown)
	d.Crash(all)
	d.Start()
	write(t, d, 0, "a")
	checkErr(t, "Write", d.Write(0, "b"), api.ErrDown)
	d.Start()
	checkSeen(t, d, "a")
}

// P3.2
func TestFailureDisarms(t *testing.T) {
	d := newDisk(t, 1)
	d.Arm(api.Cut{At: 2, Keep: all})
	restart(d, 0)
	for range 5 {
		write(t, d, 0, "a")
		flush(t, d)
	}
	d.Arm(api.Cut{At: 1, Keep: 0})
	checkErr(t, "Flush", d.Flush(), api.ErrDown)
	d.Start()
	for range 5 {
		write(t, d, 0, "b")
		flush(t, d)
	}
	checkState(t, d, false, 0)
	checkSeen(t, d, "b")
}

// A flush counts though nothing waits. P3.2
func TestEmptyFlushCounts(t *testing.T) {
	d := newDisk(t, 1)
	d.Arm(api.Cut{At: 3, Keep: 0})
	flush(t, d)
	flush(t, d)
	checkErr(t, "Write", d.Write(0, "a"), api.ErrDown)
	d.Start()
	checkSeen(t, d, "")
}

// The 64th write and the 65th fail themselves. P3.2
func TestCutBehind64Writes(t *testing.T) {
	for _, c := range []struct {
		at   int
		want string
	}{{64, "last"}, {65, "a"}, {66, "a"}} {
		d := newDisk(t, 1)
		d.Arm(api.Cut{At: c.at, Keep: all})
		for range c.at - 1 {
			write(t, d, 0, "a")
		}
		checkErr(t, "Write", d.Write(0, "last"), api.ErrDown)
		checkState(t, d, true, 0)
		d.Start()
		checkSeen(t, d, c.want)
	}
}

// P3.3
func TestFlushedLasts(t *testing.T) {
	d := newDisk(t, 4)
	for at, data := range []string{"a", "b", "c", "d"} {
		write(t, d, at, data)
	}
	flush(t, d)
	write(t, d, 1, "lost")
	write(t, d, 2, "kept")
	for range 3 {
		restart(d, 2)
		checkSeen(t, d, "a", "b", "kept", "d")
		d.Arm(api.Cut{At: 1, Keep: all})
		d.Flush()
		d.Start()
		checkSeen(t, d, "a", "b", "kept", "d")
	}
	write(t, d, 0, "lost")
	restart(d, 0)
	checkSeen(t, d, "a", "b", "kept", "d")
}

// Disks share nothing. Rule 4
func TestDisksAreApart(t *testing.T) {
	d, e := newDisk(t, 1), newDisk(t, 1)
	d.Arm(api.Cut{At: 2, Keep: 0})
	write(t, d, 0, "d")
	write(t, e, 0, "e")
	write(t, e, 0, "f")
	checkSeen(t, d, "d")
	checkSeen(t, e, "f")
	d.Crash(0)
	checkState(t, e, false, 2)
}

// Rules 3 and 7: what is handed in isn't kept, answers are new memory.
func TestAnswersAreNewMemory(t *testing.T) {
	data := strings.Repeat("x", 32)
	d := newDisk(t, 1)
	write(t, d, 0, data)
	waits, _ := d.Read(0)
	again, _ := d.Read(0)
	flush(t, d)
	lasts, _ := d.Read(0)
	texts := []string{data, waits, again, lasts}
	for i, a := range texts {
		for _, b := range texts[:i] {
			if unsafe.StringData(a) == unsafe.StringData(b) {
				t.Error("answers share memory")
			}
		}
	}
}

// model is a disk as the words say it: all writes since the last flush, one by one.
type model struct {
	lasts []string
	waits []struct {
		at   int
		data string
	}
	steps int
	cut   api.Cut
	down  bool
}

func (m *model) crash(keep uint64) {
	if m.down {
		return
	}
	for i, w := range m.waits {
		if i < 64 && keep&(1<<i) != 0 {
			m.lasts[w.at] = w.data
		}
	}
	m.waits, m.cut, m.down = nil, api.Cut{}, true
}

func (m *model) step() api.Errno {
	m.steps++
	if m.cut.At > 0 && m.steps == m.cut.At {
		m.crash(m.cut.Keep)
		return api.ErrDown
	}
	return api.OK
}

func (m *model) write(at int, data string) api.Errno {
	if m.down {
		return api.ErrDown
	} else if at < 0 || at >= len(m.lasts) {
		return api.ErrRange
	} else if len(data) > 32 {
		return api.ErrLong
	}
	m.waits = append(m.waits, struct {
		at   int
		data string
	}{at, padded(data)})
	return m.step()
}

func (m *model) flush() api.Errno {
	if m.down {
		return api.ErrDown
	}
	if err := m.step(); err != api.OK {
		return err
	}
	for _, w := range m.waits {
		m.lasts[w.at] = w.data
	}
	m.waits = nil
	return api.OK
}

func (m *model) read(at int) (string, api.Errno) {
	if m.down {
		return "", api.ErrDown
	} else if at < 0 || at >= len(m.lasts) {
		return "", api.ErrRange
	}
	seen := m.lasts[at]
	for _, w := range m.waits {
		if w.at == at {
			seen = w.data
		}
	}
	return seen, api.OK
}

// runBoth does what the bytes say to a disk and to a model, and holds the one against the other at each step.
func runBoth(t *testing.T, script []byte) {
	const sectors = 6
	d := newDisk(t, sectors)
	m := &model{lasts: make([]string, sectors)}
	for at := range m.lasts {
		m.lasts[at] = padded("")
	}
	for ; len(script) >= 3; script = script[3:] {
		a, b := int(script[1]), int(script[2])
		keep := uint64(a+1) * uint64(b+1) * 0x9e3779b97f4a7c15
		switch script[0] % 16 {
		default:
			data := strings.Repeat(string(script[1:3]), b%18)
			checkErr(t, "Write", d.Write(a%8-1, data), m.write(a%8-1, data))
		case 0, 1:
			checkErr(t, "Flush", d.Flush(), m.flush())
		case 2:
			d.Crash(keep)
			m.crash(keep)
		case 3:
			d.Arm(api.Cut{At: a%90 - 2, Keep: keep})
			m.cut, m.steps = api.Cut{At: a%90 - 2, Keep: keep}, 0
		case 4, 5:
			d.Start()
			m.down = false
		}
		checkState(t, d, m.down, len(m.waits))
		for at := -1; at <= sectors; at++ {
			want, wantErr := m.read(at)
			if got, err := d.Read(at); got != want || err != wantErr {
				t.Fatalf("Read(%d) = %q, %d, want %q, %d", at, got, err, want, wantErr)
			}
		}
	}
}

// P3.1, P3.2, P3.3
func TestAgainstTheWords(t *testing.T) {
	next := uint32(1)
	for range 300 {
		script := make([]byte, 600)
		for i := range script {
			next = next*1664525 + 1013904223
			script[i] = byte(next >> 24)
		}
		runBoth(t, script)
		for i := range script { // fewer failures, so that more writes wait
			if i%3 == 0 && script[i]%16 < 3 && script[i] < 224 {
				script[i] = 9
			}
		}
		runBoth(t, script)
	}
}

func FuzzDisk(f *testing.F) {
	f.Add([]byte("\x06\x01\x02\x06\x02\x03\x02\x01\x01\x04\x00\x00"))
	f.Fuzz(runBoth)
}

// So that what a host does to a whole disk takes no time to speak of.
func BenchmarkWholeDisk(b *testing.B) {
	for b.Loop() {
		d, _ := block.New(api.MaxSectors)
		for at := range api.MaxSectors {
			d.Write(at, "data")
			d.Read(at)
		}
		d.Flush()
	}
}
