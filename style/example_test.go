package style_test

import (
	"testing"

	"colophon/api"
	"colophon/samples"
	"colophon/style"
)

// By syntax, style and whole together.
func TestP15_2Examples(t *testing.T) {
	for _, x := range samples.Examples() {
		if got := printed(t, x.Width, laidOf(t, x.Source)); got != x.Want {
			t.Errorf("%q, %d:\n%s\nnot\n%s", x.Source, x.Width, got, x.Want)
		}
	}
}

// The layout that the document tells.
func TestP15_2ALayout(t *testing.T) {
	got := samples.Words(laidOf(t, "program p;begin skip end."))
	if want := `"program" S "p" ";" H "begin" [e2 H "skip" ] H "end" "." H`; got != want {
		t.Errorf("%s, not %s", got, want)
	}
}

// A program, call by call: what each event lays, told by hand.
func TestP15_2CallByCall(t *testing.T) {
	s := style.New()
	for _, step := range [][2]string{
		{"+Program", ""}, {"{a}", `H "{a}"`}, {"program", `H "program"`}, {"p", `S "p"`}, {";", `";"`}, {"+Block", ""}, {"+Proc", ""}, {"proc^2", `H E "proc"`}, {"f", `S "f"`},
		{"+Params", ""}, {"(", `"("`}, {"+Param", ""}, {"a", `[2 B0 [2 "a"`}, {":", `] ":"`}, {"+NameType", ""}, {"t", `S "t"`}, {"-NameType", ""}, {"-Param", ""}, {")", `] ")"`}, {"-Params", ""},
		{";", `";"`}, {"//b", `[e2 S "//b"`}, {"+Block", ""}, {"begin", `H "begin"`}, {"+Body", ""}, {"+Return", ""}, {"return^3", `[e2 H "return"`},
		{"+Expr", ""}, {"+Rel", ""}, {"+Sum", ""}, {"+Term", ""}, {"+Value", ""}, {"name:1", `S [3 [0 [0 [0 [0 "1"`}, {"{c}", `S "{c}"`}, {"-Value", ""}, {"-Term", ""},
		{"sign:+", `] S "+"`}, {"{d}^2", `H E "{d}"`}, {"+Term", ""}, {"+Object", ""}, {"x", `H B1 [0 "x"`}, {"-Object", ""}, {"-Term", ""}, {"-Sum", ""}, {"-Rel", ""}, {"-Expr", ""}, {"-Return", ""}, {"-Body", ""},
		{"end", `] ] ] ] ] ] H "end"`}, {"-Block", ""}, {";", `] ";"`}, {"-Proc", ""}, {"begin^2", `H "begin"`}, {"+Body", ""}, {"+Act", ""}, {"+Object", ""}, {"y", `[e2 H [2 "y"`},
		{"+Args", ""}, {"(", `"("`}, {"+Expr", ""}, {"+Rel", ""}, {"+Sum", ""}, {"+Term", ""}, {"+Object", ""}, {"z", `[2 B0 [0 [0 [0 [0 "z"`}, {"-Object", ""}, {"-Term", ""}, {"-Sum", ""}, {"-Rel", ""}, {"-Expr", ""},
		{")", `] ] ] ] ] ")"`}, {"-Args", ""}, {"-Object", ""}, {"-Act", ""}, {"-Body", ""}, {"{e}", `S "{e}"`}, {"end", `] ] H "end"`}, {"-Block", ""}, {".", `"."`}, {"//f", `S "//f"`}, {"-Program", ""},
	} {
		if got := put(s, event(step[0])).String(); got != step[1] {
			t.Fatalf("%s lays %s, not %s", step[0], got, step[1])
		}
	}
	if got := closed(s).String(); got != "H" {
		t.Errorf("Close lays %s", got)
	}
	if got := (closed(s)); !got.same(answer{code: api.ErrDone}) {
		t.Errorf("Close again: %s", got)
	}
}
