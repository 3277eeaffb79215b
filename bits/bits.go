// Package bits is layer 1: see shared/doc/01-bits.md.
package bits

import "magneto/api"

// maxWidth is how many bits a uint64 has.
const maxWidth = 64

// Parse are the levels of a text of 0 and 1.
func Parse(s string) ([]int, int, api.Errno) {
	if at := misspelt(s); at >= 0 {
		return nil, at, api.ErrForm
	}
	l := make([]int, len(s))
	for i := range len(s) {
		l[i] = int(s[i] - '0')
	}
	return l, 0, api.OK
}

// misspelt is the place of the first byte that names no level; -1: all do.
func misspelt(s string) int {
	for i := range len(s) {
		if s[i] != '0' && s[i] != '1' {
			return i
		}
	}
	return -1
}

// Text is the text of levels.
func Text(l []int) (string, int, api.Errno) {
	if at := Check(l); at >= 0 {
		return "", at, api.ErrRange
	}
	text := make([]byte, len(l))
	for i := range len(l) {
		text[i] = '0' + byte(l[i])
	}
	return string(text), 0, api.OK
}

// Of are so many lowest bits of a number, the greatest one first.
func Of(n uint64, width int) ([]int, api.Errno) {
	if width < 0 || width > maxWidth {
		return nil, api.ErrRange
	}
	l := make([]int, width)
	for i := range width {
		l[width-1-i] = int(n >> uint(i) & 1)
	}
	return l, api.OK
}

// Value is the number of levels, the greatest one first.
func Value(l []int) (uint64, api.Errno) {
	if len(l) > maxWidth {
		return 0, api.ErrLong
	}
	if Check(l) >= 0 {
		return 0, api.ErrRange
	}
	n := uint64(0)
	for i := range len(l) {
		n = n<<1 | uint64(l[i])
	}
	return n, api.OK
}

// Runs are how many alike stand in a row, from the first one on.
func Runs(l []int) []int {
	var runs []int
	first := 0
next:
	for first < len(l) {
		for n := range len(l) - first {
			if l[first+n] != l[first] {
				runs = append(runs, n)
				first += n
				continue next
			}
		}
		// No number differs any more: the last run goes up to the end.
		runs = append(runs, len(l)-first)
		break next
	}
	return runs
}

// Longest is the greatest of these.
func Longest(l []int) int {
	longest := 0
	for _, n := range Runs(l) {
		longest = max(longest, n)
	}
	return longest
}

// Check is the place of the first one that is no level; -1: all are.
func Check(l []int) int {
	for i := range len(l) {
		if l[i] != api.Dominant && l[i] != api.Recessive {
			return i
		}
	}
	return -1
}
