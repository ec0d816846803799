package samples_test

import (
	"strings"
	"testing"

	"colophon/api"
	"colophon/samples"
)

func TestNoted(t *testing.T) {
	a, b := api.Tok{Kind: api.TokName, Text: "a"}, api.Tok{Kind: api.TokName, Text: "b"}
	for _, c := range []struct {
		times [3]int
		want  string
	}{
		{[3]int{0, 0, 0}, "Name Name"},
		{[3]int{1, 0, 0}, "Block Name Name"},
		{[3]int{0, 2, 0}, "Name Line Block Name"},
		{[3]int{0, 0, 3}, "Name Name Block Line Block"},
	} {
		var kinds []string
		for _, tok := range samples.Noted([]api.Tok{a, b}, func(at int) int { return c.times[at] }) {
			kinds = append(kinds, samples.KindWord(tok.Kind))
		}
		if got := strings.Join(kinds, " "); got != c.want {
			t.Errorf("%v: %s, not %s", c.times, got, c.want)
		}
	}
}

func TestNests(t *testing.T) {
	n := samples.Nest{Ahead: "a", Part: "b", Behind: "c"}
	if n.Source(0) != "ac" || n.Source(3) != "abbbc" {
		t.Errorf("%s, %s", n.Source(0), n.Source(3))
	}
	for _, n := range samples.Nests() {
		if n.Part == "" || !strings.HasPrefix(n.Ahead, "program p;") {
			t.Errorf("%+v", n)
		}
	}
}

// No program is another one's beginning, so that each of them is one of its own.
func TestPrograms(t *testing.T) {
	for i, a := range samples.Programs() {
		for j, b := range samples.Programs() {
			if i != j && strings.HasPrefix(b, a) {
				t.Errorf("%q and %q", a, b)
			}
		}
	}
}
