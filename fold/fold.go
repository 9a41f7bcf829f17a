// Package fold is layer 1: texts without regard to the case of letters.
package fold

import (
	"cmp"
	"iter"
)

// step is how far a byte that is changed by folding lies ahead of what it becomes.
const step = 'a' - 'A'

// Byte is a byte, folded.
func Byte(b byte) byte {
	switch {
	case b >= 'A' && b <= ']':
		return b + step
	case b == '~':
		return '^'
	}
	return b
}

// Text is a text, folded.
func Text(s string) string {
	folded := make([]byte, 0, len(s))
	for piece, turned := range Runs(s) {
		if !turned {
			folded = append(folded, piece...)
			continue
		}
		for i := range len(piece) {
			folded = append(folded, Byte(piece[i]))
		}
	}
	return string(folded)
}

// Same tells whether two texts are alike.
func Same(a, b string) bool {
	return len(a) == len(b) && Compare(a, b) == 0
}

// Compare tells which one stands ahead.
func Compare(a, b string) int {
	for i := range min(len(a), len(b)) {
		if n := cmp.Compare(Byte(a[i]), Byte(b[i])); n != 0 {
			return n
		}
	}
	return cmp.Compare(len(a), len(b))
}

// Prefix tells whether a text begins with another one.
func Prefix(s, head string) bool {
	return len(head) <= len(s) && Same(s[:len(head)], head)
}

// Runs are the pieces that are changed by folding, and those that aren't.
func Runs(s string) iter.Seq2[string, bool] {
	return func(yield func(string, bool) bool) {
		rest := s
	pieces:
		for rest != "" {
			turned := turns(rest[0])
			for i := range len(rest) {
				if turns(rest[i]) == turned {
					continue
				}
				if !yield(rest[:i], turned) {
					return
				}
				rest = rest[i:]
				continue pieces
			}
			yield(rest, turned)
			return
		}
	}
}

// turns tells whether a byte is changed by folding.
func turns(b byte) bool {
	return Byte(b) != b
}
