package syntax_test

import (
	"strings"
	"testing"

	"colophon/api"
	"colophon/tree"
)

// The rows of the chapter's examples.
func TestP14_1Examples(t *testing.T) {
	has(t, "program p ; begin skip end .", "{Program: program, p, ;, {Block: begin, {Body: {Skip: skip}}, end}, .}")
	has(t, "program p ; begin a := - b * ( c ) end .", "{Program: program, p, ;, {Block: begin, {Body: {Act: {Object: a}, :=, "+
		"{Expr: {Rel: {Sum: {Term: {Minus: -, {Object: b}}, *, {Group: (, {Expr: {Rel: {Sum: {Term: {Object: c}}}}}, )}}}}}}}, end}, .}")
	has(t, "program p ; begin return ; f ( ) end .",
		"{Program: program, p, ;, {Block: begin, {Body: {Return: return}, ;, {Act: {Object: f, {Args: (, )}}}}, end}, .}")
	for _, c := range []struct {
		source string
		code   api.Errno
		at     int
	}{
		{"", api.ErrParseEnd, 0},
		{"{a comment alone}", api.ErrParseEnd, 1},
		{"program p ;", api.ErrParseEnd, 3},
		{"begin", api.ErrParseTok, 0},
		{"program program", api.ErrParseTok, 1},
		{"program p ; begin a := 1 = 2 = 3 end .", api.ErrParseTok, 9},
		{"program p ; begin a . 1", api.ErrParseTok, 6},
	} {
		answers(t, tokens(c.source), answer{code: c.code, at: c.at})
	}
	brackets := func(n int) []api.Tok {
		return tokens("program p ; begin a := " + strings.Repeat("( ", n) + "b" + strings.Repeat(" )", n) + " end .")
	}
	if a := program(brackets(198)); a.code != api.OK || a.at != 0 || tree.Depth(a.n) != 999 {
		t.Errorf("198 brackets: %s, and %d deep", a, tree.Depth(a.n))
	}
	answers(t, brackets(199), answer{code: api.ErrParseDeep, at: 6 + 199})
	answers(t, brackets(200), answer{code: api.ErrParseDeep, at: 6 + 199})
}

// e is an Expr of one Term that has such kids.
func e(kids string) string { return "{Expr: {Rel: {Sum: {Term: " + kids + "}}}}" }

// o is an Object of a name alone.
func o(name string) string { return "{Object: " + name + "}" }

// Each form of a statement, with what may be left out and without, with what may come again once and twice.
func TestP14_1Statements(t *testing.T) {
	const skip = "{Body: {Skip: skip}}"
	a, b, c := e(o("a")), e(o("b")), e(o("c"))
	for form, want := range map[string]string{
		"skip":                                "{Skip: skip}",
		"skip;skip":                           "{Skip: skip}, ;, {Skip: skip}",
		"skip;skip;a":                         "{Skip: skip}, ;, {Skip: skip}, ;, {Act: {Object: a}}",
		"a":                                   "{Act: {Object: a}}",
		"a:=b":                                "{Act: {Object: a}, :=, " + b + "}",
		"a();b":                               "{Act: {Object: a, {Args: (, )}}}, ;, {Act: {Object: b}}",
		"a.b[c]:=b":                           "{Act: {Object: a, {Select: ., b}, {Index: [, " + c + ", ]}}, :=, " + b + "}",
		"if a then skip end":                  "{If: if, " + a + ", then, " + skip + ", end}",
		"if a then skip;a end":                "{If: if, " + a + ", then, {Body: {Skip: skip}, ;, {Act: {Object: a}}}, end}",
		"if a then skip else skip end":        "{If: if, " + a + ", then, " + skip + ", else, " + skip + ", end}",
		"if a then skip elif b then skip end": "{If: if, " + a + ", then, " + skip + ", elif, " + b + ", then, " + skip + ", end}",
		"if a then skip elif b then skip elif c then skip else skip end": "{If: if, " + a + ", then, " + skip + ", elif, " + b + ", then, " + skip +
			", elif, " + c + ", then, " + skip + ", else, " + skip + ", end}",
		"while a do skip end":       "{While: while, " + a + ", do, " + skip + ", end}",
		"while a do skip;skip end":  "{While: while, " + a + ", do, {Body: {Skip: skip}, ;, {Skip: skip}}, end}",
		"for i:=a to b do skip end": "{For: for, i, :=, " + a + ", to, " + b + ", do, " + skip + ", end}",
		"repeat skip until a":       "{Repeat: repeat, " + skip + ", until, " + a + "}",
		"repeat a;skip until b;a":   "{Repeat: repeat, {Body: {Act: {Object: a}}, ;, {Skip: skip}}, until, " + b + "}, ;, {Act: {Object: a}}",
		"return":                    "{Return: return}",
		"return;return":             "{Return: return}, ;, {Return: return}",
		"return a":                  "{Return: return, " + a + "}",
		"return 1":                  "{Return: return, " + e("{Value: 1}") + "}",
		"return \"t\"":              "{Return: return, " + e("{Value: \"t\"}") + "}",
		"return 'c'":                "{Return: return, " + e("{Value: 'c'}") + "}",
		"return -a":                 "{Return: return, " + e("{Minus: -, {Object: a}}") + "}",
		"return not a":              "{Return: return, " + e("{Not: not, {Object: a}}") + "}",
		"return(a)":                 "{Return: return, " + e("{Group: (, "+a+", )}") + "}",
		"begin skip end":            "{Compound: begin, " + skip + ", end}",
		"begin begin a end;a end":   "{Compound: begin, {Body: {Compound: begin, {Body: {Act: {Object: a}}}, end}, ;, {Act: {Object: a}}}, end}",
	} {
		has(t, "program p;begin "+form+" end.", "{Program: program, p, ;, {Block: begin, {Body: "+want+"}, end}, .}")
	}
}

// Each form of an expression. Expr, Rel, Sum, Term and Object stand there always.
func TestP14_1Expressions(t *testing.T) {
	a, b, c := e(o("a")), e(o("b")), e(o("c"))
	term := func(name string) string { return "{Term: {Object: " + name + "}}" }
	sum := func(name string) string { return "{Sum: " + term(name) + "}" }
	rel := func(name string) string { return "{Rel: " + sum(name) + "}" }
	for form, want := range map[string]string{
		"a":            a,
		"1":            e("{Value: 1}"),
		"\"t\"":        e("{Value: \"t\"}"),
		"'c'":          e("{Value: 'c'}"),
		"(a)":          e("{Group: (, " + a + ", )}"),
		"((a))":        e("{Group: (, " + e("{Group: (, "+a+", )}") + ", )}"),
		"-a":           e("{Minus: -, {Object: a}}"),
		"- -a":         e("{Minus: -, {Minus: -, {Object: a}}}"),
		"not a":        e("{Not: not, {Object: a}}"),
		"-not(a)":      e("{Minus: -, {Not: not, {Group: (, " + a + ", )}}}"),
		"not -1":       e("{Not: not, {Minus: -, {Value: 1}}}"),
		"a*b":          e("{Object: a}, *, {Object: b}"),
		"a*b/1%c":      e("{Object: a}, *, {Object: b}, /, {Value: 1}, %, {Object: c}"),
		"-a*b":         e("{Minus: -, {Object: a}}, *, {Object: b}"),
		"a* -b":        e("{Object: a}, *, {Minus: -, {Object: b}}"),
		"not a*b":      e("{Not: not, {Object: a}}, *, {Object: b}"),
		"a+b":          "{Expr: {Rel: {Sum: " + term("a") + ", +, " + term("b") + "}}}",
		"a+b-c":        "{Expr: {Rel: {Sum: " + term("a") + ", +, " + term("b") + ", -, " + term("c") + "}}}",
		"a- -b":        "{Expr: {Rel: {Sum: " + term("a") + ", -, {Term: {Minus: -, {Object: b}}}}}}",
		"a-b*c":        "{Expr: {Rel: {Sum: " + term("a") + ", -, {Term: {Object: b}, *, {Object: c}}}}}",
		"a*b-c":        "{Expr: {Rel: {Sum: {Term: {Object: a}, *, {Object: b}}, -, " + term("c") + "}}}",
		"a=b":          "{Expr: {Rel: " + sum("a") + ", =, " + sum("b") + "}}",
		"a#b":          "{Expr: {Rel: " + sum("a") + ", #, " + sum("b") + "}}",
		"a<b":          "{Expr: {Rel: " + sum("a") + ", <, " + sum("b") + "}}",
		"a<=b":         "{Expr: {Rel: " + sum("a") + ", <=, " + sum("b") + "}}",
		"a>b":          "{Expr: {Rel: " + sum("a") + ", >, " + sum("b") + "}}",
		"a>=b":         "{Expr: {Rel: " + sum("a") + ", >=, " + sum("b") + "}}",
		"a+b=c":        "{Expr: {Rel: {Sum: " + term("a") + ", +, " + term("b") + "}, =, " + sum("c") + "}}",
		"(a=b)=c":      "{Expr: {Rel: {Sum: {Term: {Group: (, {Expr: {Rel: " + sum("a") + ", =, " + sum("b") + "}}, )}}}, =, " + sum("c") + "}}",
		"a and b":      "{Expr: " + rel("a") + ", and, " + rel("b") + "}",
		"a or b and c": "{Expr: " + rel("a") + ", or, " + rel("b") + ", and, " + rel("c") + "}",
		"a=b or c":     "{Expr: {Rel: " + sum("a") + ", =, " + sum("b") + "}, or, " + rel("c") + "}",
		"a or b=c":     "{Expr: " + rel("a") + ", or, {Rel: " + sum("b") + ", =, " + sum("c") + "}}",
		"a[b]":         e("{Object: a, {Index: [, " + b + ", ]}}"),
		"a[b,c]":       e("{Object: a, {Index: [, " + b + ", ,, " + c + ", ]}}"),
		"a[b,c,a]":     e("{Object: a, {Index: [, " + b + ", ,, " + c + ", ,, " + a + ", ]}}"),
		"a.b":          e("{Object: a, {Select: ., b}}"),
		"a.b.c":        e("{Object: a, {Select: ., b}, {Select: ., c}}"),
		"a()":          e("{Object: a, {Args: (, )}}"),
		"a(b)":         e("{Object: a, {Args: (, " + b + ", )}}"),
		"a(b,c)":       e("{Object: a, {Args: (, " + b + ", ,, " + c + ", )}}"),
		"a((b))":       e("{Object: a, {Args: (, " + e("{Group: (, "+b+", )}") + ", )}}"),
		"a().b[c](b)()": e("{Object: a, {Args: (, )}, {Select: ., b}, {Index: [, " + c + ", ]}, {Args: (, " + b +
			", )}, {Args: (, )}}"),
	} {
		const ahead, behind = "{Program: program, p, ;, {Block: begin, {Body: ", "}, end}, .}"
		has(t, "program p;begin x:="+form+" end.", ahead+"{Act: {Object: x}, :=, "+want+"}"+behind)
		has(t, "program p;begin return "+form+" end.", ahead+"{Return: return, "+want+"}"+behind)
		has(t, "program p;begin f("+form+")end.", ahead+"{Act: {Object: f, {Args: (, "+want+", )}}}"+behind)
		has(t, "program p;begin repeat skip until "+form+" end.", ahead+"{Repeat: repeat, {Body: {Skip: skip}}, until, "+want+"}"+behind)
	}
}

// Each form of a declaration, of a type and of parameters.
func TestP14_1Declarations(t *testing.T) {
	const named = "{NameType: t}"
	const block = "{Block: begin, {Body: {Skip: skip}}, end}"
	a, b := e(o("a")), e(o("b"))
	one := e("{Value: 1}")
	for form, want := range map[string]string{
		"":                            "",
		"var a:t;":                    "{Var: var, a, :, " + named + ", ;}",
		"var a,b:t;":                  "{Var: var, a, ,, b, :, " + named + ", ;}",
		"var a,b,c:t;":                "{Var: var, a, ,, b, ,, c, :, " + named + ", ;}",
		"var a:t;var b:t;":            "{Var: var, a, :, " + named + ", ;}, {Var: var, b, :, " + named + ", ;}",
		"var a:array[1..b]of t;":      "{Var: var, a, :, {Array: array, [, " + one + ", .., " + b + ", ], of, " + named + "}, ;}",
		"var a:record b:t end;":       "{Var: var, a, :, {Record: record, {Member: b, :, " + named + "}, end}, ;}",
		"var a:record b,c:t;d:t end;": "{Var: var, a, :, {Record: record, {Member: b, ,, c, :, " + named + "}, ;, {Member: d, :, " + named + "}, end}, ;}",
		"var a:array[1..1]of array[a..b]of t;": "{Var: var, a, :, {Array: array, [, " + one + ", .., " + one + ", ], of, {Array: array, [, " + a + ", .., " + b +
			", ], of, " + named + "}}, ;}",
		"var a:record b:record c:t end end;": "{Var: var, a, :, {Record: record, {Member: b, :, {Record: record, {Member: c, :, " + named + "}, end}}, end}, ;}",
		"var a:array[1..1]of record b:t end;": "{Var: var, a, :, {Array: array, [, " + one + ", .., " + one + ", ], of, {Record: record, {Member: b, :, " + named +
			"}, end}}, ;}",
		"const a=1;":                      "{Const: const, a, =, " + one + ", ;}",
		"const a=a=b;":                    "{Const: const, a, =, {Expr: {Rel: {Sum: {Term: {Object: a}}}, =, {Sum: {Term: {Object: b}}}}}, ;}",
		"proc f;begin skip end;":          "{Proc: proc, f, ;, " + block + ", ;}",
		"proc f:t;begin skip end;":        "{Proc: proc, f, :, " + named + ", ;, " + block + ", ;}",
		"proc f(a:t);begin skip end;":     "{Proc: proc, f, {Params: (, {Param: a, :, " + named + "}, )}, ;, " + block + ", ;}",
		"proc f(a:t):t;begin skip end;":   "{Proc: proc, f, {Params: (, {Param: a, :, " + named + "}, )}, :, " + named + ", ;, " + block + ", ;}",
		"proc f(a,b:t);begin skip end;":   "{Proc: proc, f, {Params: (, {Param: a, ,, b, :, " + named + "}, )}, ;, " + block + ", ;}",
		"proc f(a:t;b:t);begin skip end;": "{Proc: proc, f, {Params: (, {Param: a, :, " + named + "}, ;, {Param: b, :, " + named + "}, )}, ;, " + block + ", ;}",
		"proc f;var a:t;proc g;begin skip end;begin skip end;": "{Proc: proc, f, ;, {Block: {Var: var, a, :, " + named + ", ;}, {Proc: proc, g, ;, " + block +
			", ;}, begin, {Body: {Skip: skip}}, end}, ;}",
		"const a=1;proc f;begin skip end;var a:t;": "{Const: const, a, =, " + one + ", ;}, {Proc: proc, f, ;, " + block + ", ;}, {Var: var, a, :, " + named + ", ;}",
	} {
		if want != "" {
			want += ", "
		}
		has(t, "program p;"+form+"begin skip end.", "{Program: program, p, ;, {Block: "+want+"begin, {Body: {Skip: skip}}, end}, .}")
	}
}

// Wrong ones of every form, at the token that can't stand: the last one here. What comes behind it changes nothing.
func TestP14_1TheFirstThatCantStand(t *testing.T) {
	for source, wrong := range map[string]string{
		"program":                                           "program",
		"program p":                                         ".",
		"program p;":                                        "skip",
		"program p;begin ":                                  "end",
		"program p;var ":                                    "begin",
		"program p;var a":                                   ";",
		"program p;var a,":                                  ":",
		"program p;var a:":                                  "1",
		"program p;var a:t;begin skip;var":                  "",
		"program p;const a":                                 ":=",
		"program p;const a=":                                ";",
		"program p;proc f(":                                 ")",
		"program p;proc f(a:t;":                             ")",
		"program p;proc f(a:t)(":                            "",
		"program p;proc f:t:":                               "",
		"program p;proc f:t(":                               "",
		"program p;proc f;begin skip end":                   ".",
		"program p;var a:array[1":                           "]",
		"program p;var a:array[1..2":                        "..",
		"program p;var a:record ":                           "end",
		"program p;var a:record b:t;":                       "end",
		"program p;begin skip;":                             "end",
		"program p;begin skip skip":                         "",
		"program p;begin a:=":                               "end",
		"program p;begin a:=b":                              ":=",
		"program p;begin a=":                                "",
		"program p;begin 1":                                 "",
		"program p;begin (":                                 "",
		"program p;begin if a ":                             "do",
		"program p;begin if a then skip else skip ":         "elif",
		"program p;begin if a then skip else skip else":     "",
		"program p;begin if a then ":                        "end",
		"program p;begin while a ":                          "then",
		"program p;begin for i":                             "=",
		"program p;begin for a.":                            "",
		"program p;begin for i:=1 ":                         "do",
		"program p;begin for i:=1 to 2 ":                    "to",
		"program p;begin repeat skip ":                      "end",
		"program p;begin return a ":                         "b",
		"program p;begin a:=b=c":                            "#",
		"program p;begin a:=b and ":                         "and",
		"program p;begin a:=b+":                             "+",
		"program p;begin a:=not ":                           "=",
		"program p;begin a:=b*":                             ")",
		"program p;begin a:=(b":                             ",",
		"program p;begin a:=(":                              ")",
		"program p;begin a:=1":                              "(",
		"program p;begin a:=(b)":                            "[",
		"program p;begin a[":                                "]",
		"program p;begin a[b,":                              "]",
		"program p;begin a(b,":                              ")",
		"program p;begin a(b":                               "]",
		"program p;begin a.":                                "begin",
		"program p;begin skip end":                          ";",
		"program p;begin skip end.":                         ".",
		"program p;begin skip end.{c}//c\n":                 "program",
		"{c}program{c}p{c};{c}begin{c}skip{c}":              "skip",
		"program p;{c}proc f;{c}begin{c}skip end{c};begin ": "proc",
	} {
		l := append(tokens(source), tokens(wrong)...)
		answers(t, l, answer{code: api.ErrParseTok, at: len(l) - 1})
		answers(t, append(l, tokens("{c} ; end . program p")...), answer{code: api.ErrParseTok, at: len(l) - 1})
		if a := program(l[:len(l)-1]); a.code == api.ErrParseTok {
			t.Errorf("%s: %s", texts(l[:len(l)-1]), a)
		}
	}
}
