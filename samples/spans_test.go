package samples_test

import (
	"slices"
	"testing"

	"colophon/samples"
)

func TestPoints(t *testing.T) {
	for _, c := range []struct {
		words string
		want  []int
	}{
		{"5F", []int{0x5f}},
		{"41 to 43", []int{0x41, 0x42, 0x43}},
		{"9 to B, 5F, or 1044F to 10450", []int{9, 10, 11, 0x5f, 0x1044f, 0x10450}},
	} {
		if got, err := samples.Points(c.words); err != nil || !slices.Equal(got, c.want) {
			t.Errorf("Points(%q) = %x, %v, not %x", c.words, got, err, c.want)
		}
	}
}

func TestPointsThatAreNone(t *testing.T) {
	for _, words := range []string{"", ",", "x", "41 to", "41 to x", "x to 41", "43 to 41", "-1 to 41", "41, ", "41 and 43"} {
		if got, err := samples.Points(words); err == nil || got != nil {
			t.Errorf("Points(%q) = %x, %v", words, got, err)
		}
	}
}
