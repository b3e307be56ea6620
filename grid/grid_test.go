package grid_test

import (
	"math"
	"slices"
	"strconv"
	"strings"
	"testing"
	"unsafe"

	"snapferry/api"
	"snapferry/grid"
)

const (
	stay   = 1 + 1i
	pass   = 1
	come   = 1i
	maxRow = 256
)

// letters is a row with a text of each byte.
func letters(s string) []string { return strings.Split(s, "") }

// numbers is a row of so many texts, of which none is another's.
func numbers(n int) []string {
	row := make([]string, n)
	for i := range row {
		row[i] = strconv.Itoa(i)
	}
	return row
}

// mixed is a row of so many texts out of a few, without a short period.
func mixed(n, few int, seed uint32) []string {
	row := make([]string, n)
	for i := range row {
		seed = seed*1664525 + 1013904223
		row[i] = strconv.Itoa(int(seed>>24) % few)
	}
	return row
}

// rows is all rows of the texts a, b and so on, few of them, with at most upTo texts.
func rows(few, upTo int) [][]string {
	all := [][]string{nil}
	for from := 0; len(all[from]) < upTo; from++ {
		for i := range few {
			all = append(all, append(slices.Clone(all[from]), string(rune('a'+i))))
		}
	}
	return all
}

// steps is a path, written as s (stays), g (goes), c (comes).
func steps(s string) []complex128 {
	var path []complex128
	for _, r := range s {
		path = append(path, map[rune]complex128{'s': stay, 'g': pass, 'c': come}[r])
	}
	return path
}

func times(step complex128, n int) []complex128 { return slices.Repeat([]complex128{step}, n) }

func path(t *testing.T, a, b []string) []complex128 {
	t.Helper()
	p, err := grid.Path(a, b)
	if err != api.OK {
		t.Fatalf("Path of %d and %d texts = %d", len(a), len(b), err)
	}
	return p
}

func checkPath(t *testing.T, a, b []string, want []complex128) {
	t.Helper()
	if got := path(t, a, b); !slices.Equal(got, want) {
		t.Errorf("Path(%.80q, %.80q) = %d steps %v, want %d steps %v", a, b, len(got), got, len(want), want)
	}
}

func checkLong(t *testing.T, a, b []string) {
	t.Helper()
	if p, err := grid.Path(a, b); len(p) != 0 || err != api.ErrLong {
		t.Errorf("Path of %d and %d texts = %v, %d", len(a), len(b), p, err)
	}
}

func checkApply(t *testing.T, a []string, p []complex128, comes, want []string) {
	t.Helper()
	if got, err := grid.Apply(a, p, comes); !slices.Equal(got, want) || err != api.OK {
		t.Errorf("Apply(%.80q, %v, %.80q) = %.80q, %d, want %.80q", a, p, comes, got, err, want)
	}
}

func checkNoApply(t *testing.T, a []string, p []complex128, comes []string) {
	t.Helper()
	if got, err := grid.Apply(a, p, comes); len(got) != 0 || err != api.ErrForm {
		t.Errorf("Apply(%.80q, %v, %.80q) = %.80q, %d, want nothing, ErrForm", a, p, comes, got, err)
	}
}

func checkComes(t *testing.T, b []string, p []complex128, want ...string) {
	t.Helper()
	if got := grid.Comes(b, p); !slices.Equal(got, want) {
		t.Errorf("Comes(%.80q, %v) = %.80q, want %.80q", b, p, got, want)
	}
}

// best is the words' best path: all are tried, in their order, and the first one of those that have the most is kept.
func best(a, b []string) []complex128 {
	var found, way []complex128
	most := -1
	var try func(a, b []string, same int)
	try = func(a, b []string, same int) {
		if len(a) == 0 && len(b) == 0 && same > most {
			found, most = slices.Clone(way), same
		}
		with := func(step complex128, a, b []string, same int) {
			way = append(way, step)
			try(a, b, same)
			way = way[:len(way)-1]
		}
		if len(a) > 0 && len(b) > 0 && a[0] == b[0] {
			with(stay, a[1:], b[1:], same+1)
		}
		if len(a) > 0 {
			with(pass, a[1:], b, same)
		}
		if len(b) > 0 {
			with(come, a, b[1:], same)
		}
	}
	try(a, b, 0)
	return found
}

// mostFrom answers how many steps can stay from a point on; of rows too long to try all paths.
func mostFrom(a, b []string) func(x, y int) int {
	most := map[[2]int]int{}
	var from func(x, y int) int
	from = func(x, y int) int {
		if x >= len(a) || y >= len(b) {
			return 0
		}
		if n, ok := most[[2]int{x, y}]; ok {
			return n
		}
		n := max(from(x+1, y), from(x, y+1))
		if a[x] == b[y] {
			n = max(n, 1+from(x+1, y+1))
		}
		most[[2]int{x, y}] = n
		return n
	}
	return from
}

// checkBest goes along a path: at each point its step is the first, in the order of the words, behind which there are still as many that stay as can be.
func checkBest(t *testing.T, a, b []string) {
	t.Helper()
	from := mostFrom(a, b)
	x, y := 0, 0
	for i, step := range path(t, a, b) {
		var want complex128 = come
		if x < len(a) && y < len(b) && a[x] == b[y] && 1+from(x+1, y+1) == from(x, y) {
			want = stay
		} else if x < len(a) && from(x+1, y) == from(x, y) {
			want = pass
		}
		if step != want {
			t.Fatalf("Path of %d and %d texts: the step %d is %v, want %v", len(a), len(b), i, step, want)
		}
		x += int(real(step))
		y += int(imag(step))
	}
	if x != len(a) || y != len(b) {
		t.Errorf("Path of %d and %d texts ends at %d %d", len(a), len(b), x, y)
	}
}

// checkThereAndBack: what the path makes of the rows, and of the rows the other way round.
func checkThereAndBack(t *testing.T, a, b []string) {
	t.Helper()
	there, back := path(t, a, b), path(t, b, a)
	checkApply(t, a, there, grid.Comes(b, there), b)
	checkApply(t, b, back, grid.Comes(a, back), a)
	same := grid.Same(there)
	if grid.Same(back) != same {
		t.Errorf("%d steps of %.80q and %.80q stay, %d back", same, a, b, grid.Same(back))
	}
	if len(there) != len(a)+len(b)-same || len(back) != len(there) {
		t.Errorf("%d and %d steps of %.80q and %.80q", len(there), len(back), a, b)
	}
	points := grid.Points(there)
	if last := points[len(points)-1]; points[0] != 0 || last != complex(float64(len(a)), float64(len(b))) {
		t.Errorf("the path of %.80q and %.80q goes from %v to %v", a, b, points[0], last)
	}
}

// The chapter's example. P5.1, P5.2
func TestChaptersExample(t *testing.T) {
	a, b := letters("abc"), letters("acd")
	checkPath(t, a, b, []complex128{1 + 1i, 1, 1 + 1i, 1i})
	checkComes(t, b, path(t, a, b), "d")
	checkApply(t, a, path(t, a, b), []string{"d"}, b)
}

// P5.1
func TestPathKnownSteps(t *testing.T) {
	for _, c := range []struct{ a, b, want string }{
		{"", "", ""},
		{"a", "", "g"},
		{"", "a", "c"},
		{"abc", "", "ggg"},
		{"", "abc", "ccc"},
		{"a", "a", "s"},
		{"abc", "abc", "sss"},
		{"a", "b", "gc"},
		{"ab", "cd", "ggcc"},
		{"ab", "ba", "gsc"},
		{"aab", "ab", "sgs"},
		{"ab", "aab", "scs"},
		{"aa", "a", "sg"},
		{"a", "aa", "sc"},
		{"aba", "bab", "gssc"},
		{"abcabba", "cbabac", "ggsgscssc"},
		{"axb", "ayb", "sgcs"},
		{"xab", "yab", "gcss"},
		{"abx", "aby", "ssgc"},
		{"abcd", "bcda", "gsssc"},
		{"abcd", "dabc", "csssg"},
		{"abba", "baab", "gsgscc"},
	} {
		checkPath(t, letters(c.a), letters(c.b), steps(c.want))
	}
}

// All rows of three texts up to 4 long, against all paths there are. P5.1
func TestPathAgainstAllPaths(t *testing.T) {
	all := rows(3, 4)
	for _, a := range all {
		for _, b := range all {
			checkPath(t, a, b, best(a, b))
		}
	}
	all = rows(2, 6)
	for _, a := range all[len(all)-64:] {
		for _, b := range all[len(all)-64:] {
			checkPath(t, a, b, best(a, b))
		}
	}
}

// P5.1, P5.3
func TestPathOfLongRows(t *testing.T) {
	sizes := []int{0, 1, 2, 7, 63, 64, 128, 255, 256}
	for i, n := range sizes {
		for j, m := range sizes {
			for _, few := range []int{1, 2, 3, 20, 250} {
				a, b := mixed(n, few, uint32(i+1)), mixed(m, few, uint32(100*j+7))
				checkBest(t, a, b)
				checkThereAndBack(t, a, b)
			}
		}
	}
}

// P5.1
func TestPathOfTheLongest(t *testing.T) {
	a, empty := numbers(maxRow), make([]string, maxRow)
	b := slices.Clone(a)
	slices.Reverse(b)
	checkPath(t, a, a, times(stay, maxRow))
	checkPath(t, empty, empty, times(stay, maxRow))
	checkPath(t, a, nil, times(pass, maxRow))
	checkPath(t, nil, a, times(come, maxRow))
	checkPath(t, a, empty, append(times(pass, maxRow), times(come, maxRow)...))
	checkPath(t, a, b, slices.Concat(times(pass, maxRow-1), times(stay, 1), times(come, maxRow-1)))
	checkPath(t, a, a[1:], slices.Concat(times(pass, 1), times(stay, maxRow-1)))
	checkPath(t, a[1:], a, slices.Concat(times(come, 1), times(stay, maxRow-1)))
	checkPath(t, a, a[:maxRow-1], slices.Concat(times(stay, maxRow-1), times(pass, 1)))
}

// P5.1
func TestPathOfRowsTooLong(t *testing.T) {
	for _, n := range []int{257, 258, 512, 1 << 16, 1 << 20} {
		long := make([]string, n)
		for _, m := range []int{0, 1, 256, 257} {
			checkLong(t, long, make([]string, m))
			checkLong(t, make([]string, m), long)
		}
		checkLong(t, long, long)
		checkLong(t, numbers(n), nil)
	}
}

// Texts are held against each other whole, and rows text by text. P5.1
func TestPathOfTextsOfAllKinds(t *testing.T) {
	long := strings.Repeat("x", 1<<16)
	kinds := []string{"", "\x00", "\x00\x00", "a", "A", "ab", "a\x00", " a", "é", "e\u0301", "\xff", "\xff\xfe", long, long + "y", "y" + long}
	for i, x := range kinds {
		for j, y := range kinds {
			want := steps("gc")
			if i == j {
				want = steps("s")
			}
			checkPath(t, []string{x}, []string{strings.Clone(y)}, want)
		}
	}
	checkPath(t, kinds, slices.Clone(kinds), times(stay, len(kinds)))
	checkPath(t, []string{"ab"}, []string{"a", "b"}, steps("gcc"))
	checkPath(t, []string{"", "a"}, []string{"a"}, steps("gs"))
	checkPath(t, []string{"a"}, []string{"a", ""}, steps("sc"))
	checkPath(t, []string{""}, nil, steps("g"))
}

// P5.1
func TestPoints(t *testing.T) {
	for _, c := range []struct {
		path string
		want []complex128
	}{
		{"", []complex128{0}},
		{"s", []complex128{0, 1 + 1i}},
		{"g", []complex128{0, 1}},
		{"c", []complex128{0, 1i}},
		{"gcs", []complex128{0, 1, 1 + 1i, 2 + 2i}},
		{"sgsc", []complex128{0, 1 + 1i, 2 + 1i, 3 + 2i, 3 + 3i}},
		{"ccgg", []complex128{0, 1i, 2i, 1 + 2i, 2 + 2i}},
	} {
		if got := grid.Points(steps(c.path)); !slices.Equal(got, c.want) {
			t.Errorf("Points(%s) = %v, want %v", c.path, got, c.want)
		}
	}
	if got := grid.Points([]complex128{}); !slices.Equal(got, []complex128{0}) {
		t.Errorf("Points of no step = %v", got)
	}
	const many = 1 << 16
	for _, step := range steps("sgc") {
		got := grid.Points(times(step, many))
		if len(got) != many+1 || got[many] != many*step || got[many/2] != many/2*step {
			t.Errorf("Points of many steps %v", step)
		}
	}
}

// Steps that are none of the three lead on, too. P5.1
func TestPointsOfOtherSteps(t *testing.T) {
	got := grid.Points([]complex128{2, -1i, 0, 0.5 + 1i, -2.5})
	if want := []complex128{0, 2, 2 - 1i, 2 - 1i, 2.5, 0}; !slices.Equal(got, want) {
		t.Errorf("Points = %v, want %v", got, want)
	}
	for _, x := range []float64{math.NaN(), math.Inf(1), math.Inf(-1), math.MaxFloat64} {
		if got := grid.Points([]complex128{complex(x, 1), 1, come}); len(got) != 4 || imag(got[3]) != 2 {
			t.Errorf("Points behind %v = %v", x, got)
		}
	}
}

// P5.1
func TestSame(t *testing.T) {
	for s, want := range map[string]int{"": 0, "s": 1, "g": 0, "c": 0, "gc": 0, "sss": 3, "sgcscgs": 3, "gggs": 1} {
		if got := grid.Same(steps(s)); got != want {
			t.Errorf("Same(%s) = %d, want %d", s, got, want)
		}
	}
	wrong := []complex128{0, -1, -1i, -1 - 1i, 2, 2i, 2 + 2i, 1 - 1i, -1 + 1i, 1 + 2i, 2 + 1i, 1.5 + 1i, 1 + 0.5i, complex(math.NaN(), 1), complex(1, math.Inf(1))}
	if got := grid.Same(wrong); got != 0 {
		t.Errorf("Same of other steps = %d", got)
	}
	if got := grid.Same(append(wrong, stay, stay)); got != 2 {
		t.Errorf("Same of two, and other steps = %d", got)
	}
	if got := grid.Same(times(stay, 1<<16)); got != 1<<16 {
		t.Errorf("Same of many = %d", got)
	}
}

// P5.2
func TestApply(t *testing.T) {
	for _, c := range []struct{ a, path, comes, want string }{
		{"", "", "", ""},
		{"a", "s", "", "a"},
		{"a", "g", "", ""},
		{"", "c", "x", "x"},
		{"a", "gc", "x", "x"},
		{"a", "cg", "x", "x"},
		{"a", "sc", "x", "ax"},
		{"a", "cs", "x", "xa"},
		{"abc", "sgsc", "d", "acd"},
		{"abc", "cscscsc", "1234", "1a2b3c4"},
		{"abc", "gcgcgc", "123", "123"},
		{"abc", "cccggg", "123", "123"},
		{"aaa", "sgs", "", "aa"},
		{"", "ccc", "aba", "aba"},
	} {
		checkApply(t, letters(c.a), steps(c.path), letters(c.comes), letters(c.want))
	}
	checkApply(t, []string{"", "\x00"}, steps("scs"), []string{"\xff"}, []string{"", "\xff", "\x00"})
	checkApply(t, []string{}, []complex128{}, []string{}, nil)
}

// Any path does, not just the best one; and rows may be longer than those of Path. P5.2
func TestApplyOfLongRows(t *testing.T) {
	const many = 3000
	a, b := numbers(many), mixed(many, 9, 1)
	checkApply(t, a, times(stay, many), nil, a)
	checkApply(t, a, times(pass, many), nil, nil)
	checkApply(t, nil, times(come, many), b, b)
	checkApply(t, a, append(times(pass, many), times(come, many)...), b, b)
	checkApply(t, a, append(times(stay, many), times(come, many)...), b, slices.Concat(a, b))
	checkApply(t, a, append(times(come, many), times(stay, many)...), b, slices.Concat(b, a))
	checkNoApply(t, a, times(stay, many-1), nil)
	checkNoApply(t, a, times(stay, many+1), nil)
	checkNoApply(t, a, append(times(stay, many), times(come, many+1)...), b)
	checkNoApply(t, a, append(times(stay, many), times(come, many-1)...), b)
}

// Of each path, one text more and one less. P5.2
func TestApplyOfTooManyAndTooFew(t *testing.T) {
	for _, s := range []string{"", "s", "g", "c", "gc", "cg", "sgsc", "ccc", "ggg", "sss", "csgcsg"} {
		p := steps(s)
		n := strings.Count(s, "s") + strings.Count(s, "g")
		m := strings.Count(s, "c")
		for of := range n + 3 {
			for coming := range m + 3 {
				if of == n && coming == m {
					continue
				}
				checkNoApply(t, numbers(of), p, numbers(coming))
			}
		}
		if got, err := grid.Apply(numbers(n), p, numbers(m)); len(got) != len(s)-strings.Count(s, "g") || err != api.OK {
			t.Errorf("Apply of %s = %q, %d", s, got, err)
		}
	}
}

// P5.2
func TestApplyOfOtherSteps(t *testing.T) {
	nan, inf := math.NaN(), math.Inf(1)
	for _, step := range []complex128{0, -1, -1i, -1 - 1i, 1 - 1i, -1 + 1i, 2, 2i, 2 + 2i, 1 + 2i, 2 + 1i, 0.5, 0.5i, 0.5 + 0.5i, 1.5 + 1i, 1 + 1.5i,
		complex(math.Nextafter(1, 2), 0), complex(0, math.Nextafter(1, 0)), complex(1, math.SmallestNonzeroFloat64),
		complex(nan, nan), complex(nan, 1), complex(1, nan), complex(nan, 0), complex(0, nan), complex(inf, 0), complex(0, -inf), complex(inf, inf), complex(1<<32+1, 0)} {
		checkNoApply(t, nil, []complex128{step}, nil)
		checkNoApply(t, letters("a"), []complex128{step}, letters("x"))
		for at := range 5 {
			checkNoApply(t, letters("abc"), slices.Insert(steps("sgsc"), at, step), letters("d"))
			if at < 4 {
				p := steps("sgsc")
				p[at] = step
				checkNoApply(t, letters("abc"), p, letters("d"))
				checkNoApply(t, letters("ab"), p, letters("d"))
				checkNoApply(t, letters("abc"), p, nil)
			}
		}
	}
	checkNoApply(t, letters("ab"), []complex128{2}, nil)
	checkNoApply(t, letters("ab"), []complex128{0, 2, stay}, nil)
	checkNoApply(t, nil, []complex128{1, -1}, nil)
	minus := math.Copysign(0, -1) // is nought
	checkApply(t, letters("ab"), []complex128{complex(1, minus), stay, complex(minus, 1)}, letters("c"), letters("bc"))
}

// P5.2
func TestComes(t *testing.T) {
	for _, c := range []struct{ b, path, want string }{
		{"", "", ""},
		{"x", "", ""},
		{"x", "c", "x"},
		{"x", "s", ""},
		{"x", "g", ""},
		{"xy", "cc", "xy"},
		{"xy", "sc", "y"},
		{"xy", "cs", "x"},
		{"xy", "gc", "x"},
		{"xy", "gcgcg", "xy"},
		{"acd", "sgsc", "d"},
		{"abcde", "scgscg", "bd"},
		{"aaab", "ccsc", "aab"},
		// more than there are
		{"x", "cc", "x"},
		{"x", "sc", ""},
		{"", "ccc", ""},
		{"xy", "scccc", "y"},
		{"xy", "sssc", ""},
		// fewer
		{"abcde", "c", "a"},
		{"abcde", "sc", "b"},
	} {
		checkComes(t, letters(c.b), steps(c.path), letters(c.want)...)
	}
	const many = 3000
	checkComes(t, numbers(many), times(come, many), numbers(many)...)
	checkComes(t, numbers(many), times(come, many+9), numbers(many)...)
	checkComes(t, numbers(many), append(times(stay, many-1), come, come), strconv.Itoa(many-1))
	checkComes(t, []string{"", "\x00", "\xff"}, steps("ccc"), "", "\x00", "\xff")
}

// What isn't a step may lead to numbers that no text has. P5.2
func TestComesOfOtherSteps(t *testing.T) {
	b := letters("abc")
	nan, inf := math.NaN(), math.Inf(1)
	for _, c := range []struct {
		what string
		path []complex128
		want string
	}{
		{"none of them comes", []complex128{0, 2, -1i, 2i, 1 + 2i, 0.5i, -1, complex(nan, 1)}, ""},
		{"to the side", []complex128{2, -7, 0.5, come, 0, come}, "ab"},
		{"two at once", []complex128{2i, come}, "c"},
		{"below the first", []complex128{-1i, come, come}, "a"},
		{"far below", []complex128{-1 << 40 * 1i, come, come}, ""},
		{"far above", []complex128{1 << 40 * 1i, come, come}, ""},
		{"there and back", []complex128{come, -1i, come}, "aa"},
		{"between two", []complex128{0.5i, come, 0.5i, come}, "c"},
		{"just below a whole one", []complex128{complex(0, math.Nextafter(1, 0)), come}, ""},
		{"just below none", []complex128{complex(0, -0.5), come}, ""},
		{"no number ahead", []complex128{complex(nan, 0), come}, "a"},
		{"no number at the side", []complex128{complex(0, nan), come, come}, ""},
		{"without an end", []complex128{complex(0, inf), come, come}, ""},
		{"without an end, below", []complex128{complex(0, -inf), come}, ""},
		{"from end to end", []complex128{complex(0, inf), complex(0, -inf), come}, ""},
		{"without an end ahead", []complex128{complex(-inf, 1), come}, "b"},
		{"too great to count", []complex128{complex(0, math.MaxFloat64), come}, ""},
	} {
		if got := grid.Comes(b, c.path); !slices.Equal(got, letters(c.want)) {
			t.Errorf("%s: Comes(%v) = %q, want %q", c.what, c.path, got, c.want)
		}
	}
	checkComes(t, nil, []complex128{-1i, come, come, come})
}

// All rows of three texts up to 4 long. P5.3
func TestThereAndBack(t *testing.T) {
	all := rows(3, 4)
	for _, a := range all {
		for _, b := range all {
			checkThereAndBack(t, a, b)
		}
	}
}

// Rules 3, 4 and 7: what is handed in stays, its spare room too; and answers share memory neither with it nor with each other.
func TestArgumentsStayAndAnswersAreTheirOwn(t *testing.T) {
	a, b, comes := letters("abcSPARE"), letters("acdROOM"), letters("dMORE")
	p := steps("sgscgggg")
	wasA, wasB, wasComes, wasP := slices.Clone(a), slices.Clone(b), slices.Clone(comes), slices.Clone(p)
	for range 2 {
		found := path(t, a[:3], b[:3])
		points := grid.Points(p[:4])
		came := grid.Comes(b[:3], p[:4])
		row, err := grid.Apply(a[:3], p[:4], comes[:1])
		if !slices.Equal(found, wasP[:4]) || !slices.Equal(came, wasComes[:1]) || !slices.Equal(row, wasB[:3]) || err != api.OK || points[4] != 3+3i {
			t.Errorf("the same arguments, other answers: %v %v %q %q %d", found, points, came, row, err)
		}
		for _, list := range [][]complex128{found, points} {
			for i := range cap(list) {
				list[:cap(list)][i] = -1
			}
		}
		for _, list := range [][]string{came, row} {
			for i := range cap(list) {
				list[:cap(list)][i] = "changed"
			}
		}
	}
	if !slices.Equal(a, wasA) || !slices.Equal(b, wasB) || !slices.Equal(comes, wasComes) || !slices.Equal(p, wasP) {
		t.Errorf("left %q %q %q %v", a, b, comes, p)
	}
}

func TestAnswersShareNoTexts(t *testing.T) {
	a, comes := []string{strings.Repeat("a", 40)}, []string{strings.Repeat("x", 40)}
	row, _ := grid.Apply(a, steps("sc"), comes)
	came := grid.Comes(comes, steps("c"))
	for _, got := range []string{row[0], row[1], came[0]} {
		for _, given := range []string{a[0], comes[0]} {
			if unsafe.StringData(got) == unsafe.StringData(given) {
				t.Errorf("%.10q.. is what was handed in", got)
			}
		}
	}
}

// rowOf is a row out of bytes: each that is 0 to 7 is a text of its own, greater ones fill texts up.
func rowOf(s []byte) []string {
	var row []string
	for _, b := range s {
		if b < 8 || len(row) == 0 {
			row = append(row, "")
		}
		row[len(row)-1] += string([]byte{b})
	}
	return row[:min(len(row), maxRow)]
}

func FuzzPath(f *testing.F) {
	f.Add([]byte("\x01\x02\x03"), []byte("\x01\x03\x04"))
	f.Add([]byte("\x01ab\x01\x01c"), []byte("\x01abc\x00\x01"))
	f.Fuzz(func(t *testing.T, x, y []byte) {
		a, b := rowOf(x), rowOf(y)
		if len(a)+len(b) <= 10 {
			checkPath(t, a, b, best(a, b))
		}
		checkBest(t, a, b)
		checkThereAndBack(t, a, b)
	})
}

// Any paths: what Apply refuses and what it makes, step by step by whole numbers.
func FuzzApply(f *testing.F) {
	f.Add([]byte("\x01\x02\x03"), []byte("\x00\x01\x00\x02"), []byte("\x04"))
	f.Add([]byte(""), []byte("\x02\x03"), []byte("\x04"))
	f.Fuzz(func(t *testing.T, x, way, y []byte) {
		a, comes := rowOf(x), rowOf(y)
		table := [...]complex128{stay, pass, come, 0, -1, -1i, 2, 2i, 0.5i, -1 - 1i}
		var p []complex128
		var want []string
		right, i, j := true, 0, 0
		for _, b := range way {
			step := table[int(b)%len(table)]
			p = append(p, step)
			goes, arrives := step == stay || step == pass, step == come
			right = right && (goes && i < len(a) || arrives && j < len(comes))
			if right && step == stay {
				want = append(want, a[i])
			} else if right && arrives {
				want = append(want, comes[j])
			}
			if goes {
				i++
			} else if arrives {
				j++
			}
		}
		if right && i == len(a) && j == len(comes) {
			checkApply(t, a, p, comes, want)
		} else {
			checkNoApply(t, a, p, comes)
		}
		if grid.Same(p) > len(p) || len(grid.Points(p)) != len(p)+1 || len(grid.Comes(comes, p)) > len(p) {
			t.Errorf("more than there are steps: %v", p)
		}
	})
}

func BenchmarkPath(b *testing.B) {
	x, y := mixed(maxRow, 20, 1), mixed(maxRow, 20, 2)
	for b.Loop() {
		grid.Path(x, y)
	}
}
