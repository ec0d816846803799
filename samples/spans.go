package samples

import (
	"errors"
	"strconv"
	"strings"
)

// errSpans: the words tell no spans.
var errSpans = errors.New("samples: no spans")

// Points reads spans of points as the document writes them ("41 to 5A, 5F, or 61 to 7A") and is what it stands for: all
// the points within.
func Points(words string) ([]int, error) {
	var l []int
	for _, part := range strings.Split(words, ",") {
		first, last, err := span(strings.TrimPrefix(strings.TrimSpace(part), "or "))
		if err != nil {
			return nil, err
		}
		for n := first; n <= last; n++ {
			l = append(l, n)
		}
	}
	return l, nil
}

// span reads one span; a point by itself is one too.
func span(words string) (int, int, error) {
	low, high, more := strings.Cut(words, " to ")
	if !more {
		high = low
	}
	first, err := strconv.ParseInt(low, 16, 32)
	if err != nil {
		return 0, 0, errSpans
	}
	last, err := strconv.ParseInt(high, 16, 32)
	if err != nil || first < 0 || last < first {
		return 0, 0, errSpans
	}
	return int(first), int(last), nil
}
