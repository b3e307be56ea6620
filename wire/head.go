package wire

import "strings"

// A head's text: the mark, Parent, Child and Next.
const (
	mark       = "SNP1"
	nameSize   = 32
	numberSize = 4

	parentAt = len(mark)
	childAt  = parentAt + nameSize
	nextAt   = childAt + nameSize
	headSize = nextAt + numberSize

	minNext = 2
	maxNext = 1<<31 - 1
)

func isHead(h Head) bool {
	return len(h.Parent) == nameSize && len(h.Child) == nameSize && h.Next >= minNext && h.Next <= maxNext
}

func headText(h Head) string {
	return mark + h.Parent + h.Child + numberText(h.Next)
}

// readHead: false, if the text is no head's.
func readHead(s string) (Head, bool) {
	if len(s) != headSize || !strings.HasPrefix(s, mark) {
		return Head{}, false
	}
	h := Head{
		Parent: strings.Clone(s[parentAt:childAt]),
		Child:  strings.Clone(s[childAt:nextAt]),
		Next:   readNumber(s[nextAt:]),
	}
	if !isHead(h) {
		return Head{}, false
	}
	return h, true
}

func numberText(n int) string {
	return string([]byte{byte(n >> 24), byte(n >> 16), byte(n >> 8), byte(n)})
}

func readNumber(s string) int {
	n := 0
	for i := range len(s) {
		n = n<<8 | int(s[i])
	}
	return n
}
