package parse_test

import (
	"slices"
	"strings"
	"testing"

	"colophon/api"
	"colophon/parse"
	"colophon/samples"
)

// The rows of the chapter's examples, each with what Depth tells behind it.
func TestP12_2Examples(t *testing.T) {
	p := parse.New()
	for _, c := range []struct{ tok, want string }{
		{"program", "+Program program [1]"},
		{"p", "p [1]"},
		{";", "; [1]"},
		{"begin", "+Block begin [2]"},
		{"a", "+Body +Act +Object a [5]"},
		{":=", "-Object := [4]"},
		{"1", "+Expr +Rel +Sum +Term +Value 1 [9]"},
		{"+", "-Value -Term + [7]"},
		{"(", "+Term +Group ( [9]"},
		{"b", "+Expr +Rel +Sum +Term +Object b [14]"},
		{")", "-Object -Term -Sum -Rel -Expr ) [9]"},
		{"{a comment}", "note:{a comment} [9]"},
		{"end", "-Group -Term -Sum -Rel -Expr -Act -Body end [2]"},
		{".", "-Block . [1]"},
	} {
		if got := put(p, tokens(c.tok)[0]).String(); got != c.want {
			t.Errorf("%s: %s, not %s", c.tok, got, c.want)
		}
	}
	if got := closed(p).String(); got != "-Program [0]" {
		t.Errorf("Close: %s", got)
	}
	isOver(t, p)
}

func TestP12_2ExamplesOfErrors(t *testing.T) {
	for source, want := range map[string]string{
		"program p;begin a:=1+(b)end.var": "ErrParseTok [1] | ErrParseTok [0]",
		"program p;begin a:=1+(b)end":     "-Group -Term -Sum -Rel -Expr -Act -Body end [2] | ErrParseEnd [0]",
		";":                               "ErrParseTok [0] | ErrParseTok [0]",
		"program p;begin end":             "ErrParseTok [2] | ErrParseTok [0]",
		"program p;begin return;":         "-Return ; [3] | ErrParseEnd [0]",
		"program p;begin f()":             ") [6] | ErrParseEnd [0]",
		"":                                "ErrParseEnd [0]",
	} {
		if got := said(tokens(source)); got != want && !strings.HasSuffix(got, " | "+want) {
			t.Errorf("%s: %s, not %s", source, got, want)
		}
	}
}

// short is the events of a program's body or declarations: without what stands around them, and with the row Expr, Rel,
// Sum, Term written as one.
func short(l []api.Event, first string) string {
	var words []string
	for _, e := range l {
		words = append(words, samples.EventWord(e))
	}
	s := strings.ReplaceAll(strings.Join(words, " "), "+Expr +Rel +Sum +Term", "+E")
	s = strings.ReplaceAll(s, "-Term -Sum -Rel -Expr", "-E")
	_, s, _ = strings.Cut(s, first)
	s, _, _ = strings.Cut(s, " -Body end -Block . -Program")
	return strings.TrimSpace(s)
}

// formed holds the events of a form, of a program in which it stands.
func formed(t *testing.T, ahead, form, behind, first, want string) {
	t.Helper()
	l, code := all(tokens(ahead + form + behind))
	if code != api.OK {
		t.Errorf("%s: %s", form, samples.EventsWord(l, code))
	}
	if got := short(l, first); got != want {
		t.Errorf("%s: %s, not %s", form, got, want)
	}
}

// Each form of a statement, in its shortest shape and in longer ones.
func TestP12_2Statements(t *testing.T) {
	const skip = "+Body +Skip skip -Skip -Body"
	const a, b, c = "+E +Object a -Object -E", "+E +Object b -Object -E", "+E +Object c -Object -E"
	for form, want := range map[string]string{
		"skip":                                "+Skip skip -Skip",
		"skip;skip;skip":                      "+Skip skip -Skip ; +Skip skip -Skip ; +Skip skip -Skip",
		"a":                                   "+Act +Object a -Object -Act",
		"a:=b":                                "+Act +Object a -Object := " + b + " -Act",
		"a();b":                               "+Act +Object a +Args ( ) -Args -Object -Act ; +Act +Object b -Object -Act",
		"if a then skip end":                  "+If if " + a + " then " + skip + " end -If",
		"if a then skip;skip end":             "+If if " + a + " then +Body +Skip skip -Skip ; +Skip skip -Skip -Body end -If",
		"if a then skip else skip end":        "+If if " + a + " then " + skip + " else " + skip + " end -If",
		"if a then skip elif b then skip end": "+If if " + a + " then " + skip + " elif " + b + " then " + skip + " end -If",
		"if a then skip elif b then skip elif c then skip else skip end": "+If if " + a + " then " + skip + " elif " + b + " then " + skip +
			" elif " + c + " then " + skip + " else " + skip + " end -If",
		"while a do skip end":           "+While while " + a + " do " + skip + " end -While",
		"for i:=a to b do skip end":     "+For for i := " + a + " to " + b + " do " + skip + " end -For",
		"repeat skip until a":           "+Repeat repeat " + skip + " until " + a + " -Repeat",
		"repeat skip;skip until a;skip": "+Repeat repeat +Body +Skip skip -Skip ; +Skip skip -Skip -Body until " + a + " -Repeat ; +Skip skip -Skip",
		"return":                        "+Return return -Return",
		"return a":                      "+Return return " + a + " -Return",
		"return;skip":                   "+Return return -Return ; +Skip skip -Skip",
		"return -a":                     "+Return return +E +Minus - +Object a -Object -Minus -E -Return",
		"return(a)":                     "+Return return +E +Group ( " + a + " ) -Group -E -Return",
		"return not 1":                  "+Return return +E +Not not +Value 1 -Value -Not -E -Return",
		"return \"t\"":                  "+Return return +E +Value \"t\" -Value -E -Return",
		"return 'c'":                    "+Return return +E +Value 'c' -Value -E -Return",
		"begin skip end":                "+Compound begin " + skip + " end -Compound",
		"begin begin skip end;skip end": "+Compound begin +Body +Compound begin " + skip + " end -Compound ; +Skip skip -Skip -Body end -Compound",
	} {
		formed(t, "program p;begin ", form, " end.", "begin +Body", want)
	}
}

// Each form of an expression. Expr, Rel, Sum, Term and Object stand there always.
func TestP12_2Expressions(t *testing.T) {
	const a, b, c = "+Object a -Object", "+Object b -Object", "+Object c -Object"
	for form, want := range map[string]string{
		"a":             "+E " + a + " -E",
		"1":             "+E +Value 1 -Value -E",
		"(a)":           "+E +Group ( +E " + a + " -E ) -Group -E",
		"((a))":         "+E +Group ( +E +Group ( +E " + a + " -E ) -Group -E ) -Group -E",
		"-a":            "+E +Minus - " + a + " -Minus -E",
		"- -a":          "+E +Minus - +Minus - " + a + " -Minus -Minus -E",
		"not a":         "+E +Not not " + a + " -Not -E",
		"-not(a)":       "+E +Minus - +Not not +Group ( +E " + a + " -E ) -Group -Not -Minus -E",
		"a*b":           "+E " + a + " * " + b + " -E",
		"a*b/1%c":       "+E " + a + " * " + b + " / +Value 1 -Value % " + c + " -E",
		"-a*b":          "+E +Minus - " + a + " -Minus * " + b + " -E",
		"a* -b":         "+E " + a + " * +Minus - " + b + " -Minus -E",
		"a+b":           "+E " + a + " -Term + +Term " + b + " -E",
		"a+b-c":         "+E " + a + " -Term + +Term " + b + " -Term - +Term " + c + " -E",
		"a-b*c":         "+E " + a + " -Term - +Term " + b + " * " + c + " -E",
		"a*b-c":         "+E " + a + " * " + b + " -Term - +Term " + c + " -E",
		"a- -b":         "+E " + a + " -Term - +Term +Minus - " + b + " -Minus -E",
		"a=b":           "+E " + a + " -Term -Sum = +Sum +Term " + b + " -E",
		"a#b":           "+E " + a + " -Term -Sum # +Sum +Term " + b + " -E",
		"a<b":           "+E " + a + " -Term -Sum < +Sum +Term " + b + " -E",
		"a<=b":          "+E " + a + " -Term -Sum <= +Sum +Term " + b + " -E",
		"a>b":           "+E " + a + " -Term -Sum > +Sum +Term " + b + " -E",
		"a>=b":          "+E " + a + " -Term -Sum >= +Sum +Term " + b + " -E",
		"a+b=c":         "+E " + a + " -Term + +Term " + b + " -Term -Sum = +Sum +Term " + c + " -E",
		"a and b":       "+E " + a + " -Term -Sum -Rel and +Rel +Sum +Term " + b + " -E",
		"a or b and c":  "+E " + a + " -Term -Sum -Rel or +Rel +Sum +Term " + b + " -Term -Sum -Rel and +Rel +Sum +Term " + c + " -E",
		"a=b or c":      "+E " + a + " -Term -Sum = +Sum +Term " + b + " -Term -Sum -Rel or +Rel +Sum +Term " + c + " -E",
		"(a=b)=c":       "+E +Group ( +E " + a + " -Term -Sum = +Sum +Term " + b + " -E ) -Group -Term -Sum = +Sum +Term " + c + " -E",
		"a[1]":          "+E +Object a +Index [ +E +Value 1 -Value -E ] -Index -Object -E",
		"a[b,1,c]":      "+E +Object a +Index [ +E " + b + " -E , +E +Value 1 -Value -E , +E " + c + " -E ] -Index -Object -E",
		"a.b":           "+E +Object a +Select . b -Select -Object -E",
		"a.b.c":         "+E +Object a +Select . b -Select +Select . c -Select -Object -E",
		"a()":           "+E +Object a +Args ( ) -Args -Object -E",
		"a(b)":          "+E +Object a +Args ( +E " + b + " -E ) -Args -Object -E",
		"a(b,c)":        "+E +Object a +Args ( +E " + b + " -E , +E " + c + " -E ) -Args -Object -E",
		"a(b(),(c))":    "+E +Object a +Args ( +E +Object b +Args ( ) -Args -Object -E , +E +Group ( +E " + c + " -E ) -Group -E ) -Args -Object -E",
		"a().b[c](1)()": "+E +Object a +Args ( ) -Args +Select . b -Select +Index [ +E " + c + " -E ] -Index +Args ( +E +Value 1 -Value -E ) -Args +Args ( ) -Args -Object -E",
	} {
		formed(t, "program p;begin x:=", form, " end.", ":=", want+" -Act")
		formed(t, "program p;begin return ", form, " end.", "return", want+" -Return")
	}
}

// Act begins with any NAME that begins a statement.
func TestP12_2Acts(t *testing.T) {
	for form, want := range map[string]string{
		"a":            "+Act +Object a -Object -Act",
		"a.b":          "+Act +Object a +Select . b -Select -Object -Act",
		"a[1]:=b":      "+Act +Object a +Index [ +E +Value 1 -Value -E ] -Index -Object := +E +Object b -Object -E -Act",
		"a.b(c):=1":    "+Act +Object a +Select . b -Select +Args ( +E +Object c -Object -E ) -Args -Object := +E +Value 1 -Value -E -Act",
		"a();b:=c();d": "+Act +Object a +Args ( ) -Args -Object -Act ; +Act +Object b -Object := +E +Object c +Args ( ) -Args -Object -E -Act ; +Act +Object d -Object -Act",
	} {
		formed(t, "program p;begin ", form, " end.", "begin +Body", want)
	}
}

// Each form of a declaration, of a type and of parameters.
func TestP12_2Declarations(t *testing.T) {
	const named = "+NameType t -NameType"
	const one = "+E +Value 1 -Value -E"
	const block = "+Block begin +Body +Skip skip -Skip -Body end -Block"
	for form, want := range map[string]string{
		"var a:t;":               "+Var var a : " + named + " ; -Var",
		"var a,b,c:t;":           "+Var var a , b , c : " + named + " ; -Var",
		"var a:array[1..1]of t;": "+Var var a : +Array array [ " + one + " .. " + one + " ] of " + named + " -Array ; -Var",
		"var a:array[1..1]of array[1..1]of t;": "+Var var a : +Array array [ " + one + " .. " + one + " ] of +Array array [ " + one + " .. " + one + " ] of " +
			named + " -Array -Array ; -Var",
		"var a:record b:t end;":       "+Var var a : +Record record +Member b : " + named + " -Member end -Record ; -Var",
		"var a:record b,c:t;d:t end;": "+Var var a : +Record record +Member b , c : " + named + " -Member ; +Member d : " + named + " -Member end -Record ; -Var",
		"var a:record b:record c:t end end;": "+Var var a : +Record record +Member b : +Record record +Member c : " + named +
			" -Member end -Record -Member end -Record ; -Var",
		"const a=1;":                  "+Const const a = " + one + " ; -Const",
		"const a=b=1;":                "+Const const a = +E +Object b -Object -Term -Sum = +Sum +Term +Value 1 -Value -E ; -Const",
		"proc f;begin skip end;":      "+Proc proc f ; " + block + " ; -Proc",
		"proc f:t;begin skip end;":    "+Proc proc f : " + named + " ; " + block + " ; -Proc",
		"proc f(a:t);begin skip end;": "+Proc proc f +Params ( +Param a : " + named + " -Param ) -Params ; " + block + " ; -Proc",
		"proc f(a,b:t;c:t):t;begin skip end;": "+Proc proc f +Params ( +Param a , b : " + named + " -Param ; +Param c : " + named +
			" -Param ) -Params : " + named + " ; " + block + " ; -Proc",
		"proc f;var a:t;proc g;begin skip end;begin skip end;": "+Proc proc f ; +Block +Var var a : " + named + " ; -Var +Proc proc g ; " + block +
			" ; -Proc begin +Body +Skip skip -Skip -Body end -Block ; -Proc",
		"var a:t;const b=1;var c:t;": "+Var var a : " + named + " ; -Var +Const const b = " + one + " ; -Const +Var var c : " + named + " ; -Var",
	} {
		formed(t, "program p;", form, "begin skip end.", "+Program program p ; +Block", want+" begin +Body +Skip skip -Skip")
	}
}

// A node that has had its last token stays open till the next one comes, and is counted till then.
func TestP12_4OpenTillTheNext(t *testing.T) {
	for source, want := range map[string]string{
		"program p;begin begin skip end":          "-Skip -Body end [4] | ErrParseEnd [0]",
		"program p;begin begin skip end end":      "-Compound -Body end [2] | ErrParseEnd [0]",
		"program p;begin a[1]":                    "-Value -Term -Sum -Rel -Expr ] [6] | ErrParseEnd [0]",
		"program p;begin a[1].":                   "-Index +Select . [6] | ErrParseEnd [0]",
		"program p;begin a.b;":                    "-Select -Object -Act ; [3] | ErrParseEnd [0]",
		"program p;var a:t;":                      "-NameType ; [3] | ErrParseEnd [0]",
		"program p;var a:t;var":                   "-Var +Var var [3] | ErrParseEnd [0]",
		"program p;var a:t;begin":                 "-Var begin [2] | ErrParseEnd [0]",
		"program p;proc f;begin skip end;":        "-Block ; [3] | ErrParseEnd [0]",
		"program p;proc f;begin skip end;begin":   "-Proc begin [2] | ErrParseEnd [0]",
		"program p;var a:record b:t end":          "-NameType -Member end [4] | ErrParseEnd [0]",
		"program p;proc f(a:t)":                   "-NameType -Param ) [4] | ErrParseEnd [0]",
		"program p;begin a:=b+c;":                 "-Object -Term -Sum -Rel -Expr -Act ; [3] | ErrParseEnd [0]",
		"program p;begin if a then skip end end.": "-Block . [1] | -Program [0]",
	} {
		if got := said(tokens(source)); !strings.HasSuffix(got, " | "+want) {
			t.Errorf("%s: %s, not %s", source, got, want)
		}
	}
}

// The Leafs are the tokens, as they were put; what an event has no meaning for is zero.
func TestP12_2LeafsAreTheTokens(t *testing.T) {
	for _, source := range samples.Programs() {
		l := tokens(strings.ReplaceAll(source, ";", " ;\n\n {note}\n "))
		events, code := all(l)
		if code != api.OK {
			t.Fatalf("%s: %s", source, samples.EventsWord(events, code))
		}
		var got []api.Tok
		var open []api.NodeKind
		for _, e := range events {
			switch e.Kind {
			case api.Open:
				open = append(open, e.Node)
			case api.Close:
				if len(open) == 0 || open[len(open)-1] != e.Node {
					t.Fatalf("%s: %s of %v", source, samples.EventWord(e), open)
				}
				open = open[:len(open)-1]
			default:
				got = append(got, e.Tok)
			}
			leaf := e.Kind == api.Leaf || e.Kind == api.Note
			if leaf && e.Node != 0 || !leaf && e.Tok != (api.Tok{}) {
				t.Errorf("%s: %+v", source, e)
			}
		}
		if !slices.Equal(got, l) || len(open) != 0 {
			t.Errorf("%s: %s, not %s, and %v are open", source, texts(got), texts(l), open)
		}
	}
}
