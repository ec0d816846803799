package lex_test

import (
	"fmt"
	"strings"
	"testing"

	"colophon/api"
	"colophon/lex"
)

// aheads are what may stand ahead of an error: the source, what it tells, and where its end is.
var aheads = []struct {
	source, told string
	line, column int
}{
	{"", "", 1, 1},
	{" ", "", 1, 2},
	{"\n\t", "", 2, 2},
	{"if \u65e5\n:= ", `Key "if" 0 1:1 0; Name "日" 3 1:4 0; Sign ":=" 7 2:1 1`, 2, 4},
	{"{\n\xff}", `Block "{\n\xff}" 0 1:1 0`, 2, 3},
	{"1//x \n\n", `Number "1" 0 1:1 0; Line "//x" 1 1:2 0`, 3, 1},
	{"\"\u00e9\"'\u00e9'", `Text "\"é\"" 0 1:1 0; Char "'é'" 4 1:4 0`, 1, 7},
}

// joined are the words that are not empty.
func joined(words ...string) string {
	var some []string
	for _, w := range words {
		if w != "" {
			some = append(some, w)
		}
	}
	return strings.Join(some, "; ")
}

// An error that a character tells is sure with it: all tokens ahead of it come with it, if they were not told, and none
// behind it, then or later.
func TestP11_2ErrorsThatAreSure(t *testing.T) {
	for _, ahead := range aheads {
		for _, c := range []struct {
			wrong, word string
			more        int // bytes, and characters, from where the token begins
		}{
			{"?", "ErrScanByte", 0}, {"}", "ErrScanByte", 0}, {"_", "ErrScanByte", 0}, {"\xff", "ErrScanByte", 0}, {"\x00", "ErrScanByte", 0},
			{"\u0301", "ErrScanByte", 0}, {"\ufffd", "ErrScanByte", 0}, {"\U0001f600", "ErrScanByte", 0}, {"\xe6\x97x", "ErrScanByte", 0},
			{"\"\n", "ErrScanOpen", 0}, {"\"ab\n", "ErrScanOpen", 0}, {"'\n", "ErrScanOpen", 0}, {"'a\n", "ErrScanOpen", 0},
			{"\"\x01", "ErrScanText", 1}, {"\"ab\x7f", "ErrScanText", 3}, {"\"\t", "ErrScanText", 1}, {"\"\r", "ErrScanText", 1},
			{"''", "ErrScanText", 1}, {"'\t", "ErrScanText", 1}, {"'ab", "ErrScanText", 2}, {"'a\r", "ErrScanText", 2}, {"'a\u65e5", "ErrScanText", 2},
		} {
			word := fmt.Sprintf("%s at %d %d:%d", c.word, len(ahead.source)+c.more, ahead.line, ahead.column+c.more)
			both := joined(ahead.told, word)
			plays(t, both+" | "+word, ahead.source+c.wrong)
			plays(t, both+" | "+word+" | "+word, ahead.source+c.wrong, "x;")
			plays(t, both+" | "+word, ahead.source+c.wrong+" x ; ?")
			last := len(c.wrong) - len(lastOf(c.wrong))
			before := answerBefore(ahead.source + c.wrong[:last])
			rest := joined(strings.TrimPrefix(strings.TrimPrefix(ahead.told, before.tokens), "; "), word)
			plays(t, before.all+" | "+rest+" | "+word, ahead.source+c.wrong[:last], c.wrong[last:])
			plays(t, before.all+" | "+rest+" | "+word+" | "+word+" | "+word, ahead.source+c.wrong[:last], c.wrong[last:]+"y z", "", "\n")
		}
	}
}

// lastOf is the last character of a text.
func lastOf(s string) string {
	runes := []rune(s)
	if last := string(runes[len(runes)-1]); strings.HasSuffix(s, last) {
		return last
	}
	return s[len(s)-1:]
}

// before is what a lexer tells of what stands ahead of an error, in words: all of it, and the tokens alone.
type before struct{ all, tokens string }

func answerBefore(s string) before {
	got := fed(lex.New(), s)
	return before{got.String(), strings.TrimSuffix(got.String(), heldWord(got.held))}
}

// An error that is met at the end of the source is told by Close alone.
func TestP11_3ErrorsThatOnlyCloseTells(t *testing.T) {
	for _, ahead := range aheads {
		for _, open := range []string{"\"", "\"ab", "\"\xff", "'", "'a", "'\u65e5", "{", "{\n\n", "{ //"} {
			word := fmt.Sprintf("ErrScanOpen at %d %d:%d", len(ahead.source), ahead.line, ahead.column)
			held := fmt.Sprintf(" [%d]", len(open))
			plays(t, ahead.told+held+" | "+word, ahead.source+open)
			plays(t, ahead.told+held+" | "+held+" | "+word, ahead.source+open, "")
		}
		for _, begun := range []string{"\xc3", "\xe6", "\xe6\x97", "\xf0\x90\x90"} {
			word := fmt.Sprintf("ErrScanByte at %d %d:%d", len(ahead.source), ahead.line, ahead.column)
			plays(t, fmt.Sprintf("%s [%d] | %s", ahead.told, len(begun), word), ahead.source+begun)
		}
	}
	plays(t, ` [1] | Name "a" 0 1:1 0`, "a")
	plays(t, ` [3] | Number "1" 0 1:1 0; ErrScanByte at 1 1:2`, "1\xe6\x97")
	plays(t, ` [2] | Sign ":" 0 1:1 0; ErrScanByte at 1 1:2`, ":\xc3")
	plays(t, ` [3] | ErrScanText at 2 1:3`, "'\xe6\x97")
	plays(t, ` [4] | Line "//\xe6\x97" 0 1:1 0`, "//\xe6\x97")
}

// The first one that is met is told, whatever stands behind it, in its chunk or later.
func TestP11_2TheFirstError(t *testing.T) {
	plays(t, `ErrScanByte at 0 1:1 | ErrScanByte at 0 1:1`, "? \"")
	plays(t, `ErrScanText at 1 1:2 | ErrScanText at 1 1:2 | ErrScanText at 1 1:2`, "\"\x01", "\n")
	plays(t, ` [1] | ErrScanOpen at 0 1:1 | ErrScanOpen at 0 1:1`, "\"", "\n\x01")
	plays(t, ` [1] | ErrScanText at 1 1:2 | ErrScanText at 1 1:2`, "'", "'?")
	plays(t, ` [1] | Name "a" 0 1:1 0; ErrScanByte at 1 1:2 | ErrScanByte at 1 1:2`, "a", "}b{")
	plays(t, ` [3] | Line "//?" 0 1:1 0 [2] | ErrScanText at 6 2:3 | ErrScanText at 6 2:3`, "//?", "\n'a", "b")
	plays(t, ` [2] |  [3] | ErrScanOpen at 0 1:1`, "{?", "'")
}

// Behind an error every Feed and Close tells it again, without tokens; then it is closed.
func TestP11_3CallsBehindAnError(t *testing.T) {
	wrongs := []string{"?", "a \"b\n", "''", "x\n\"\x01", "x\n 'ab", strings.Repeat("a", api.MaxTok+1)}
	for _, wrong := range wrongs {
		l := lex.New()
		first := fed(l, wrong)
		if first.code == api.OK {
			t.Fatalf("%q: no error", wrong)
		}
		for _, s := range []string{"", " ", "x;", "\"", "\n?", "\xc3", wrong, ""} {
			if got := fed(l, s); !got.same(first.again()) {
				t.Errorf("behind %.20q Feed(%q) tells %s", wrong, s, got)
			}
		}
		if got := ended(l); !got.same(first.again()) {
			t.Errorf("behind %.20q Close tells %s", wrong, got)
		}
		isDone(t, l)
	}
}

// Behind Close all is done, be it closed with an error or without.
func TestP11_3CallsBehindClose(t *testing.T) {
	for _, s := range []string{"", " ", "a", "\"", "{", "a\xc3", "//", "?", "x ;"} {
		l := lex.New()
		fed(l, s)
		ended(l)
		isDone(t, l)
		isDone(t, l)
	}
	l := lex.New()
	if got := ended(l); !got.same(answer{}) {
		t.Errorf("Close of one to which nothing came tells %s", got)
	}
	isDone(t, l)
}

func TestR2NilLexers(t *testing.T) {
	var l *lex.Lexer
	for _, s := range []string{"", "a ", "?"} {
		if got := fed(l, s); !got.same(answer{code: api.ErrNil}) {
			t.Errorf("Feed(%q) of nil tells %s", s, got)
		}
		if got := ended(l); !got.same(answer{code: api.ErrNil}) {
			t.Errorf("Close of nil tells %s", got)
		}
	}
	if l.Held() != 0 {
		t.Error("nil holds something")
	}
}

// One that New did not make is none that calls gave; still nothing may panic.
func TestR1ALexerThatNewDidNotMake(t *testing.T) {
	for _, s := range []string{"", "a b", "\xc3", "\"a\x01", "{", "?"} {
		l := new(lex.Lexer)
		fed(l, s)
		fed(l, s)
		ended(l)
		isDone(t, l)
	}
}
