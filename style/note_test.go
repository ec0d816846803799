package style_test

import (
	"fmt"
	"strings"
	"testing"

	"colophon/api"
	"colophon/samples"
)

// Comments that are behind, and such as are not: the first Text is never behind, whatever it is.
func TestP15_2Behind(t *testing.T) {
	lays(t, "+Program {c}", `H "{c}"`)
	lays(t, "+Program //c", `H "//c"`)
	lays(t, "+Program {c} {d}", `S "{d}"`)
	lays(t, "+Program {c} //d", `S "//d"`)
	lays(t, "+Program p {c}", `S "{c}"`)
	lays(t, "+Program p //c", `S "//c"`)
	lays(t, "+Program p {c}^1", `H "{c}"`)
	lays(t, "+Program p //c^1", `H "//c"`)
	lays(t, "+Program p {c}^2", `H E "{c}"`)
	lays(t, "+Program p {c} {d}", `S "{d}"`)
	lays(t, "+Program p {c}^1 {d}", `S "{d}"`)
	lays(t, "+Program p {c} {d}^1", `H "{d}"`)
	lays(t, "+Program p {c} {d}^2", `H E "{d}"`)
	lays(t, "+Program p //c //d^1", `H "//d"`)
	lays(t, "+Program p //c //d^2 //e^2", `H E "//e"`)
	lays(t, "+Program p //c {d}", `S "{d}"`) // no source has that
}

// Begins at the front of what waits are laid with a comment; those behind another piece are not.
func TestP15_2BeginsAheadOfAComment(t *testing.T) {
	lays(t, "+Group ( {c}", `[1 S "{c}"`)
	lays(t, "+Group ( {c}^1", `[1 H "{c}"`)
	lays(t, "+Group ( {c} a", `S "a"`)
	lays(t, "+Group ( +Expr +Rel {c}", `[1 [0 [0 S "{c}"`)
	lays(t, "+Group ( +Expr {c} +Rel a", `[0 S "a"`)
	lays(t, "+Group ( +Expr {c} +Rel {d}", `[0 S "{d}"`)
	lays(t, "+Args ( +Expr +Rel {c}", `[2 S "{c}"`)
	lays(t, "+Args ( +Expr +Rel {c} a", `B0 [0 [0 S "a"`)
	lays(t, "+Block begin {c}", `[e2 S "{c}"`)
	lays(t, "+Block begin {c} +Skip skip", `H "skip"`)
	lays(t, "+Block begin +Body +Act {c} x", `H [2 "x"`)
	lays(t, "+Var var {c}", `S "{c}"`)
	lays(t, "+Var var {c} a", `S [4 "a"`)
	lays(t, "+Var var {c}^1 a", `H S [4 "a"`)
	lays(t, "+Body +Group ( -Group {c}", `[1 S "{c}"`)
	lays(t, "+Body +Group ( -Group {c} +Skip a", `] S "a"`)
	lays(t, "+Group a ( ( ) {c}", `S "{c}"`)
	lays(t, "+Expr -Expr +Expr +Group {c}", `[0 H "{c}"`)
	lays(t, "+Expr -Expr +Expr +Group {c} a", `H ] [0 "a"`)
}

// The line that is to end: ahead of all that waits, if no H is there.
func TestP15_2TheLineIsToEnd(t *testing.T) {
	for _, c := range [][2]string{
		{"+Program p", ""},
		{"+Program program", "S "},
		{"+Program ;", "H "},
		{"+Act a :=", "B1 "},
		{"+Act a := +Expr", "B1 [0 "},
		{"+Args ( +Expr", "B0 [0 "},
		{"+Var var", "S [4 "},
		{"+Block begin", "H "},
		{"+Block begin +Body +Act", "H [2 "},
		{"+Const =", "B1 "},
		{"+Expr a + +Rel", "B1 [0 "},
		{"+Expr a +Program -Program", "H "},
		{"+Var var x :", "S "},
		{"+Repeat repeat x until +Expr", "S [3 [0 "},
	} {
		for _, text := range []string{"//c", "//c^1", "{c}^1", "{c}^2", "//c^1 {d}", "{c}^1 {d}", "{c} {d}^1", "{c} //d", "//c {d}"} {
			h := "H "
			if strings.Contains(c[1], "H") {
				h = ""
			}
			lays(t, c[0]+" "+text+" y", h+c[1]+`"y"`)
		}
	}
	// What stands ahead of the token may end the line as well.
	lays(t, "+Block begin a //c end", `] H "end"`)
	lays(t, "+If if a //c then", `H ] S "then"`)
	lays(t, "+Repeat repeat a //c until", `] H "until"`)
	// It is to end once.
	lays(t, "+Program p //c a b", `"b"`)
	lays(t, "+Program p //c ; a", `H "a"`)
	lays(t, "+Program p {c}^1 a {d} b", `S "b"`)
}

// A blank that is wanted: behind all that waits, if no S, no H and no B1 is there.
func TestP15_2ABlankIsWanted(t *testing.T) {
	lays(t, "+Program p {c} a", `S "a"`)
	lays(t, "+Program p {c} {d} a", `S "a"`)
	lays(t, "+Program program {c} a", `S "a"`)
	lays(t, "+Program ; {c} a", `H "a"`)
	lays(t, "+Act x := {c} y", `B1 "y"`)
	lays(t, "+Act x := {c} +Expr y", `B1 [0 "y"`)
	lays(t, "+Act x {c} :=", `S ":="`)
	lays(t, "+Args f ( {c} )", `] S ")"`)
	lays(t, "+Args f ( {c} +Expr x", `B0 [0 S "x"`)
	lays(t, "+Args f ( +Expr x {c} -Expr )", `] ] S ")"`)
	lays(t, "+Params ( {c} x", `B0 S "x"`)
	lays(t, "+Group ( {c} x", `S "x"`)
	lays(t, "+Group ( {c} +Expr x", `[0 S "x"`)
	lays(t, "+Var var {c} x", `S [4 "x"`)
	lays(t, "+Index [ x {c} , y", `B1 "y"`)
	lays(t, "+Index [ x {c} ,", `S ","`)
	lays(t, "+Expr x {c} +", `S "+"`)
	lays(t, "+Expr x {c} -Expr +Skip y", `] S "y"`)
	lays(t, "+Block begin x {c} end", `] H "end"`)
	lays(t, "+Not not {c} x", `S "x"`)
	lays(t, "+Minus - {c} x", `S "x"`)
	lays(t, "+Program p {c} a b", `"b"`)
	lays(t, "+Program p {c} +Skip a^2", `E S "a"`)
	lays(t, "+Program p {c} +Act a^2", `E [2 S "a"`)
}

// Comments at the front, between any two tokens and at the end, of each sort, one and several in a row: what each call
// tells.
func TestP15_2CommentsEverywhere(t *testing.T) {
	t.Parallel()
	notes := events("{c} {c}^1 {c}^2 //c //c^1 //c^3")
	for _, source := range samples.Programs() {
		l := tokens(source)
		for at := range len(l) + 1 {
			for _, a := range notes {
				follows(t, eventsOf(with(l, at, a.Tok)))
				for _, b := range notes {
					follows(t, eventsOf(with(l, at, a.Tok, b.Tok)))
				}
			}
		}
		for feeds := range 4 {
			l := samples.Noted(l, func(at int) int { return 1 + at%2 })
			for i := range l {
				l[i].Feeds = (i*feeds + i/3) % (feeds + 1)
			}
			follows(t, eventsOf(l))
		}
	}
}

// with are tokens with comments ahead of one of them, which has a line feed more than the comment does.
func with(l []api.Tok, at int, notes ...api.Tok) []api.Tok {
	all := append(l[:at:at], notes...)
	all = append(all, l[at:]...)
	if at < len(l) {
		all[at+len(notes)].Feeds = notes[0].Feeds + 1
	}
	return all
}

// A comment's text stands as it is, with line ends and bad bytes in it.
func TestP15_2TextsAsTheyAre(t *testing.T) {
	for _, text := range []string{"{}", "{ }", "{a\n b\n\n}", "{\xff\u65e5}", "//", "//\t\r", "// a\xc3", "\t", "\r", "a\x00", "x", "\xff", "a b", "a\nb"} {
		for _, kind := range []api.TokKind{api.TokLine, api.TokBlock} {
			tok := api.Tok{Kind: kind, Text: text, Place: api.Place{At: 7, Line: 8, Column: 9}}
			s := behind(t, events("+Program p"))
			want := answer{laid: []api.Doc{{Kind: api.Blank}, {Kind: api.Text, Text: text}}}
			if got := put(s, api.Event{Kind: api.Note, Tok: tok}); !got.same(want) {
				t.Errorf("a Note of %q: %s", text, got)
			}
			s = behind(t, events("+Program p"))
			want = answer{laid: []api.Doc{{Kind: api.Text, Text: text}}}
			if got := put(s, api.Event{Kind: api.Leaf, Tok: tok}); !got.same(want) {
				t.Errorf("a Leaf of %q: %s", text, got)
			}
		}
	}
}

// What else stands in an event does not matter.
func TestP15_2WhatElseStandsThere(t *testing.T) {
	for _, source := range samples.Programs() {
		l := eventsOf(samples.Noted(tokens(source), func(at int) int { return at % 2 }))
		want, code := layout(l)
		if code != api.OK {
			t.Fatal(samples.ErrorWord(code))
		}
		for i := range l {
			switch l[i].Kind {
			case api.Open, api.Close:
				l[i].Tok = api.Tok{Kind: api.TokKind(i), Text: strings.Repeat(" ", i%3), Feeds: i}
			default:
				l[i].Node = api.NodeKind(i)
				l[i].Tok.Place = api.Place{At: -i, Line: i, Column: 1 << 60}
			}
		}
		if got, code := layout(l); fmt.Sprint(got) != fmt.Sprint(want) || code != api.OK {
			t.Errorf("%s: %s, %s", source, samples.Words(got), samples.ErrorWord(code))
		}
	}
}
