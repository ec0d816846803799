package grammar_test

import (
	"math/rand/v2"
	"slices"
	"strings"
	"testing"

	"colophon/api"
	"colophon/class"
	"colophon/grammar"
	"colophon/samples"
	"colophon/scan"
)

// tokens are those of a source that has no error and no comment.
func tokens(t *testing.T, source string) []api.Tok {
	t.Helper()
	l, code, _ := scan.All(source)
	if code != api.OK {
		t.Fatalf("%q: %s", source, samples.ErrorWord(code))
	}
	return l
}

func texts(l []api.Tok) string {
	var words []string
	for _, tok := range l {
		words = append(words, tok.Text)
	}
	return strings.Join(words, " ")
}

func TestWords(t *testing.T) {
	var keys, signs []string
	rest := 0
	for _, tok := range grammar.New().Words() {
		switch tok.Kind {
		case api.TokKey:
			keys = append(keys, tok.Text)
		case api.TokSign:
			signs = append(signs, tok.Text)
			if class.Sign(tok.Text, 0) != tok.Text {
				t.Errorf("no sign: %q", tok.Text)
			}
		default:
			rest++
		}
	}
	if !slices.Equal(keys, class.Keys()) || len(signs) != 21 || rest != 4 {
		t.Errorf("%q, %q and %d others", keys, signs, rest)
	}
}

func TestEvents(t *testing.T) {
	g := grammar.New()
	for source, want := range map[string]string{
		"program p;begin skip end.": "+Program program p ; +Block begin +Body +Skip skip -Skip -Body end -Block . -Program",
		"program p;var a,b:t;begin a()end.": "+Program program p ; +Block +Var var a , b : +NameType t -NameType ; -Var" +
			" begin +Body +Act +Object a +Args ( ) -Args -Object -Act -Body end -Block . -Program",
	} {
		l, ways := g.Events(tokens(t, source))
		if got := samples.EventsWord(l, api.OK); got != want || ways != 1 {
			t.Errorf("%s: %d times %s, not %s", source, ways, got, want)
		}
	}
	for _, source := range []string{"", "program", "program p;begin skip end", "program p;begin skip end..", "program p;begin end."} {
		if l, ways := g.Events(tokens(t, source)); len(l) != 0 || ways != 0 {
			t.Errorf("%s: %d times %s", source, ways, samples.EventsWord(l, api.OK))
		}
	}
}

func TestEnded(t *testing.T) {
	g := grammar.New()
	for source, want := range map[string]string{
		"":                         "program a ; begin skip end .",
		"program b":                "program b ; begin skip end .",
		"program b;begin if c":     "program b ; begin if c then skip end end .",
		"program b;begin c.d[":     "program b ; begin c . d [ a ] end .",
		"program b;proc":           "program b ; proc a ; begin skip end ; begin skip end .",
		"program b;begin skip end": "program b ; begin skip end .",
		"program b;begin c end.":   "program b ; begin c end .",
		"program b;begin c end..":  "",
		"begin":                    "",
		"program b;begin :=":       "",
	} {
		l := tokens(t, source)
		if got := texts(g.Ended(l)); got != want || g.Begins(l) != (want != "") {
			t.Errorf("%s: %s, not %s; it begins one: %t", source, got, want, g.Begins(l))
		}
	}
}

func TestSome(t *testing.T) {
	g := grammar.New()
	r := rand.New(rand.NewPCG(12, 1))
	var met [64]int
	for size := range 300 {
		l := g.Some(r.IntN, size)
		events, ways := g.Events(l)
		if ways != 1 || len(l) > 100+5*size {
			t.Fatalf("of %d: %d ways to have %s", size, ways, texts(l))
		}
		for _, e := range events {
			met[e.Node]++
		}
		source, code, _ := scan.All(texts(l))
		for i := range source {
			source[i].Place, source[i].Feeds = api.Place{}, 0
		}
		if code != api.OK || !slices.Equal(source, l) {
			t.Fatalf("other tokens: %s", texts(l))
		}
	}
	for k := api.Program; k <= api.Value; k++ {
		if met[k] < 100 {
			t.Errorf("%s just %d times", samples.NodeWord(k), met[k])
		}
	}
}
