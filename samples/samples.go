// Package samples makes the texts, the points, the sources, the layouts and the trees at which the tests hold the layers'
// calls against the document, and has words for what these answer. No layer calls it.
package samples

import "iter"

// Texts goes through all texts of at most so many parts, one part behind the other; the empty text is the first.
func Texts(parts []string, most int) iter.Seq[string] {
	return func(yield func(string) bool) {
		grow(parts, "", most, yield)
	}
}

// grow goes through a text and those that have it ahead; false: no more are wanted.
func grow(parts []string, s string, more int, yield func(string) bool) bool {
	if !yield(s) {
		return false
	}
	if more <= 0 {
		return true
	}
	for _, p := range parts {
		if !grow(parts, s+p, more-1, yield) {
			return false
		}
	}
	return true
}
