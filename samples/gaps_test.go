package samples_test

import (
	"math/rand/v2"
	"slices"
	"testing"

	"colophon/api"
	"colophon/samples"
	"colophon/scan"
)

func TestGapped(t *testing.T) {
	l := []api.Tok{{Text: "a"}, {Text: "b"}}
	if got := samples.Gapped(l, func(at int) string { return []string{"0", "1", "2"}[at] }); got != " 0 a 1 b 2" {
		t.Error(got)
	}
	if got := samples.Gapped(nil, func(int) string { return "x" }); got != " x" {
		t.Error(got)
	}
}

// Whatever stands between them, the tokens that are no comments are the same.
func TestSomeGapped(t *testing.T) {
	r := rand.New(rand.NewPCG(16, 1))
	want, _, _ := scan.All("program p ; 'c' := \"t\" end .")
	met := map[api.TokKind]int{}
	for range 300 {
		l, code, _ := scan.All(samples.SomeGapped(r.IntN, want))
		if code != api.OK {
			t.Fatal(samples.ErrorWord(code))
		}
		for _, tok := range l {
			met[tok.Kind]++
		}
		l = slices.DeleteFunc(l, func(tok api.Tok) bool { return tok.Kind == api.TokLine || tok.Kind == api.TokBlock })
		if !slices.EqualFunc(l, want, func(a, b api.Tok) bool { return a.Kind == b.Kind && a.Text == b.Text }) {
			t.Fatal(samples.AnswerWord(l, api.OK, api.Place{}))
		}
	}
	if met[api.TokLine] < 100 || met[api.TokBlock] < 100 {
		t.Errorf("just %d and %d comments", met[api.TokLine], met[api.TokBlock])
	}
}

func TestSaid(t *testing.T) {
	for source, want := range map[string]string{
		"{a}b":            `Block "{a}" 0 0:0 1; Name "b" 0 0:0 0`,
		"a\n\n\nb":        `Name "a" 0 0:0 0; Name "b" 0 0:0 0`,
		"a {b} //c\n//d":  `Name "a" 0 0:0 0; Block "{b}" 0 0:0 0; Line "//c" 0 0:0 0; Line "//d" 0 0:0 1`,
		"a\n\n\n{b}\n{c}": `Name "a" 0 0:0 0; Block "{b}" 0 0:0 1; Block "{c}" 0 0:0 1`,
	} {
		l, _, _ := scan.All(source)
		if got := samples.AnswerWord(samples.Said(l), api.OK, api.Place{}); got != want {
			t.Errorf("%q: %s, not %s", source, got, want)
		}
	}
}
