package samples_test

import (
	"slices"
	"testing"

	"colophon/samples"
)

func TestTexts(t *testing.T) {
	for _, c := range []struct {
		parts []string
		most  int
		want  []string
	}{
		{nil, 3, []string{""}},
		{[]string{"a"}, -1, []string{""}},
		{[]string{"a"}, 0, []string{""}},
		{[]string{"a"}, 2, []string{"", "a", "aa"}},
		{[]string{"a", "bc"}, 2, []string{"", "a", "aa", "abc", "bc", "bca", "bcbc"}},
	} {
		if got := slices.Collect(samples.Texts(c.parts, c.most)); !slices.Equal(got, c.want) {
			t.Errorf("Texts(%q, %d) = %q, not %q", c.parts, c.most, got, c.want)
		}
	}
}

func TestTextsMayBeLeft(t *testing.T) {
	var got []string
	for s := range samples.Texts([]string{"a", "b"}, 3) {
		if s == "aba" {
			break
		}
		got = append(got, s)
	}
	if want := []string{"", "a", "aa", "aaa", "aab", "ab"}; !slices.Equal(got, want) {
		t.Errorf("ahead of aba: %q, not %q", got, want)
	}
}
