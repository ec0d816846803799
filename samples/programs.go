package samples

import (
	"strings"

	"colophon/api"
)

// Programs are sources that have all of the grammar's forms together, most of them in their shortest shape.
func Programs() []string {
	return []string{
		"program p;begin skip end.",
		"program p;var a,b:t;const c=1;proc f;begin skip end;begin f end.",
		"program p;proc f(a,b:t;c:u):v;begin return end;proc g:v;begin return 1 end;begin skip;skip end.",
		"program p;var a:array[1..2]of array[b..c]of t;var a:record b,c:t;d:record e:u end end;begin skip end.",
		"program p;begin a;a:=b;a[1,2].b(c,d)();a.b.c:=d[e] end.",
		"program p;begin if a then skip elif b then skip elif c then skip else skip end;if a then skip end end.",
		"program p;begin while a do skip;skip end;for i:=1 to 2 do skip end;repeat skip until a;begin skip end end.",
		"program p;begin a:=-b*not c/(d)%\"t\"+'c'-e=f+g and h or i<j end.",
	}
}

// Nowhere are tokens that can stand nowhere: of no kind of api's, and words and signs that the language has not.
func Nowhere() []api.Tok {
	return []api.Tok{
		{}, {Kind: 9, Text: "a"}, {Kind: 255, Text: ";"}, {Kind: api.TokKey}, {Kind: api.TokSign},
		{Kind: api.TokKey, Text: "a"}, {Kind: api.TokKey, Text: ";"}, {Kind: api.TokSign, Text: "skip"}, {Kind: api.TokSign, Text: "?"},
	}
}

// TokTexts are texts that a token may have, whatever its kind is: words and signs of the language, and what is no token's
// text at all.
func TokTexts() []string {
	return []string{
		"", " ", "a", "A", "1", "\"t\"", "'c'", "begin", "end", "BEGIN", "begin ", " begin", "begin end", "and", "not", ";", ":=", ": =", "=", ":", ".", "..", "(", "()", "-", "--",
		"!", "?", "//", "{}", "\n", "\x00", "\xff", "\u65e5", "NAME", "NUMBER", "Program",
	}
}

// Noted are tokens with comments ahead of each of them, as many as times says, and behind the last one.
func Noted(l []api.Tok, times func(at int) int) []api.Tok {
	var all []api.Tok
	for i := range len(l) + 1 {
		for n := range times(i) {
			note := api.Tok{Kind: api.TokLine, Text: "// one", Place: api.Place{At: i, Line: n, Column: 3}, Feeds: n}
			if (i+n)%2 == 0 {
				note.Kind, note.Text = api.TokBlock, "{two}"
			}
			all = append(all, note)
		}
		if i < len(l) {
			all = append(all, l[i])
		}
	}
	return all
}

// Nest is a part of a source that stands in itself, and what stands in the last one.
type Nest struct{ Ahead, Part, Behind string }

// Source is the beginning of a program, with the part so many times.
func (n Nest) Source(times int) string {
	return n.Ahead + strings.Repeat(n.Part, times) + n.Behind
}

// Nests are parts of every sort that may stand in themselves.
func Nests() []Nest {
	return []Nest{
		{"program p;begin a:=", "- ", "b[c"},
		{"program p;begin a:=", "not ", "1"},
		{"program p;begin a:=", "(", "b+c"},
		{"program p;begin a:=1+", "(", "- -b"},
		{"program p;begin a:=1=", "(", "not b"},
		{"program p;begin return ", "b(", "c.d"},
		{"program p;begin ", "b[", "'c'"},
		{"program p;begin return 1 and ", "b[c,", "-d"},
		{"program p;begin a;b.c:=", "d.e(f,", "g())"},
		{"program p;", "proc f;", "begin skip end;begin skip"},
		{"program p;", "proc f(a:t);", "var a:t;begin b"},
		{"program p;", "proc f:t;", "proc g(a:t"},
		{"program p;const a=1;", "proc f;const a=1;", "const b=2"},
		{"program p;var a:", "array[1..b]of ", "t"},
		{"program p;var a:", "array[1..1]of ", "record b:t end"},
		{"program p;proc f(a:", "record b:", "t"},
		{"program p;proc f:", "record a,b:t;c:", "record d:t"},
		{"program p;", "begin ", "skip;return(1)"},
		{"program p;begin ", "skip;begin ", "a"},
		{"program p;begin ", "if a then ", "if b then skip"},
		{"program p;begin ", "if a then skip else ", "return"},
		{"program p;begin ", "if a then skip elif b then ", "return c"},
		{"program p;begin ", "while a do ", "for i:=1 to 2 do skip"},
		{"program p;begin ", "for i:=a to b do ", "while a do skip"},
		{"program p;begin ", "repeat ", "repeat skip until a until b"},
	}
}
