// Package grammar has the grammar as the document writes it, row by row, and asks it by trying all ways: what is a program,
// what can begin one, which nodes it has. The tests hold the layers against it; no layer calls it.
package grammar

import (
	"strings"

	"colophon/api"
	"colophon/samples"
)

// rows are those of the document, in its order: { } is any number of times, [ ] once or not at all, | stands between
// choices; a word of the language and a sign stand in ' '. Of a choice the first one is the one that may end soonest.
const rows = `
Program = 'program' NAME ';' Block '.'
Block = { Var | Const | Proc } 'begin' Body 'end'
Var = 'var' NAME { ',' NAME } ':' type ';'
Const = 'const' NAME '=' Expr ';'
Proc = 'proc' NAME [ Params ] [ ':' type ] ';' Block ';'
Params = '(' Param { ';' Param } ')'
Param = NAME { ',' NAME } ':' type
type = NameType | Array | Record
NameType = NAME
Array = 'array' '[' Expr '..' Expr ']' 'of' type
Record = 'record' Member { ';' Member } 'end'
Member = NAME { ',' NAME } ':' type
Body = statement { ';' statement }
statement = Skip | Act | If | While | For | Repeat | Return | Compound
Skip = 'skip'
Act = Object [ ':=' Expr ]
If = 'if' Expr 'then' Body { 'elif' Expr 'then' Body } [ 'else' Body ] 'end'
While = 'while' Expr 'do' Body 'end'
For = 'for' NAME ':=' Expr 'to' Expr 'do' Body 'end'
Repeat = 'repeat' Body 'until' Expr
Return = 'return' [ Expr ]
Compound = 'begin' Body 'end'
Expr = Rel { 'and' Rel | 'or' Rel }
Rel = Sum [ '=' Sum | '#' Sum | '<' Sum | '<=' Sum | '>' Sum | '>=' Sum ]
Sum = Term { '+' Term | '-' Term }
Term = factor { '*' factor | '/' factor | '%' factor }
factor = Object | Value | Minus | Not | Group
Minus = '-' factor
Not = 'not' factor
Group = '(' Expr ')'
Value = NUMBER | TEXT | CHAR
Object = NAME { Index | Select | Args }
Index = '[' Expr { ',' Expr } ']'
Select = '.' NAME
Args = '(' [ Expr { ',' Expr } ] ')'
`

// Grammar is the rows by their names.
type Grammar struct{ named map[string]item }

// New reads the rows.
func New() *Grammar {
	g := &Grammar{named: make(map[string]item)}
	for line := range strings.Lines(rows) {
		if name, row, ok := strings.Cut(strings.TrimSpace(line), " = "); ok {
			g.named[name] = item{kind: named, node: samples.NodeOf(name), parts: []item{read(row)}}
		}
	}
	return g
}

// item is a row, or a part of one.
type item struct {
	kind  kind
	node  api.NodeKind // of a named one; 0: it is no node
	name  string       // of a call: which one it is
	tok   api.Tok      // of a token: one that may stand there
	parts []item
}

type kind int

const (
	token  kind = iota
	call        // of a named item
	named       // one part
	row         // its parts, one behind the other
	choice      // one of its parts
	many        // its part, any number of times
	maybe       // its part, once or not at all
)

// read makes an item of a row as it is written.
func read(s string) item {
	words := strings.Fields(s)
	return readChoice(&words)
}

// readChoice takes the words up to a bracket that was not opened, and that bracket.
func readChoice(words *[]string) item {
	all, now := item{kind: choice}, item{kind: row}
	for len(*words) > 0 {
		word := (*words)[0]
		*words = (*words)[1:]
		if word == "}" || word == "]" {
			break
		}
		if word == "|" {
			all.parts = append(all.parts, now)
			now = item{kind: row}
			continue
		}
		now.parts = append(now.parts, readOne(word, words))
	}
	all.parts = append(all.parts, now)
	return all
}

func readOne(word string, words *[]string) item {
	switch word {
	case "{":
		return item{kind: many, parts: []item{readChoice(words)}}
	case "[":
		return item{kind: maybe, parts: []item{readChoice(words)}}
	case "NAME":
		return item{tok: api.Tok{Kind: api.TokName, Text: "a"}}
	case "NUMBER":
		return item{tok: api.Tok{Kind: api.TokNumber, Text: "1"}}
	case "TEXT":
		return item{tok: api.Tok{Kind: api.TokText, Text: `"t"`}}
	case "CHAR":
		return item{tok: api.Tok{Kind: api.TokChar, Text: "'c'"}}
	}
	text, quoted := strings.CutPrefix(word, "'")
	switch {
	case !quoted:
		return item{kind: call, name: word}
	case text[0] >= 'a':
		return item{tok: api.Tok{Kind: api.TokKey, Text: text[:len(text)-1]}}
	}
	return item{tok: api.Tok{Kind: api.TokSign, Text: text[:len(text)-1]}}
}

// like tells whether a token is the one that a row asks for: by its text, if it is a word or a sign, else by its kind alone.
func like(want, t api.Tok) bool {
	if want.Kind == api.TokKey || want.Kind == api.TokSign {
		return t.Kind == want.Kind && t.Text == want.Text
	}
	return t.Kind == want.Kind
}
