package scan_test

import (
	"strings"
	"testing"

	"colophon/api"
	"colophon/samples"
	"colophon/scan"
)

// hasOne holds that a source tells one token, or none and ErrScanLong at its beginning; with some tokens ahead, too.
func hasOne(t *testing.T, kind api.TokKind, token, behind string) {
	t.Helper()
	for _, ahead := range []string{"", "\n ;"} {
		s := ahead + token + behind
		l, code, at := scan.All(s)
		begin := api.Place{Line: 1, Column: 1}
		if ahead != "" {
			begin = api.Place{At: 3, Line: 2, Column: 3}
			if len(l) == 0 || l[0] != (api.Tok{Kind: api.TokSign, Text: ";", Place: api.Place{At: 2, Line: 2, Column: 2}, Feeds: 1}) {
				t.Fatalf("All(%s): %s", samples.Short(s), samples.AnswerWord(l, code, at))
			}
			l = l[1:]
		}
		long := len(token) > api.MaxTok
		switch {
		case long && (len(l) > 0 || code != api.ErrScanLong || at != begin):
			t.Errorf("%d bytes, All(%s): %s", len(token), samples.Short(s), samples.AnswerWord(l, code, at))
		case !long && (len(l) != 1 || code != api.OK || l[0] != (api.Tok{Kind: kind, Text: strings.TrimRight(token, " \t\r"), Place: begin})):
			t.Errorf("%d bytes, All(%s): %s", len(token), samples.Short(s), samples.AnswerWord(l, code, at))
		}
		asPlain(t, s)
	}
}

// Each kind around the limit, its last character having one byte or several, so that it may pass the limit by some.
func TestP10_1EachKindAtTheLimit(t *testing.T) {
	for size := api.MaxTok - 1; size <= api.MaxTok+5; size++ {
		t.Run("", func(t *testing.T) {
			t.Parallel()
			eachKindOf(t, size)
		})
	}
}

func eachKindOf(t *testing.T, size int) {
	for _, last := range []string{"a", "_", "\u00e9", "\u0301", "\u65e5", "\U00010400"} {
		for _, behind := range []string{"", " ", "\n"} {
			hasOne(t, api.TokName, samples.Filled("a", size, last), behind)
			hasOne(t, api.TokName, samples.Filled("\u65e5", size, last), behind)
		}
	}
	hasOne(t, api.TokNumber, samples.Filled("", size, "7"), "")
	hasOne(t, api.TokNumber, samples.Filled("0", size, "0"), "\n")
	for _, last := range []string{"a", "\xff", "\xc3", "\u00e9", "\u65e5", "\U00010400", "\xed\xa0\x80"} {
		for _, behind := range []string{"", "\n"} {
			hasOne(t, api.TokText, samples.Filled("\"", size, last+"\""), behind)
			hasOne(t, api.TokBlock, samples.Filled("{", size, last+"}"), behind)
			hasOne(t, api.TokBlock, samples.Filled("{\n\n", size, last+"\n}"), behind)
			hasOne(t, api.TokLine, samples.Filled("//", size, last), behind)
		}
	}
	for _, last := range []string{" ", "\t", "\r", "a \t\r", "\u65e5 ", "\xff\r"} {
		hasOne(t, api.TokLine, samples.Filled("//", size, last), "")
		hasOne(t, api.TokLine, samples.Filled("//", size, last), "\n")
		hasOne(t, api.TokLine, "//"+strings.Repeat(last[len(last)-1:], size-2), "")
		hasOne(t, api.TokLine, "//"+strings.Repeat(last[len(last)-1:], size-2), "\n")
	}
}

func TestP10_1LongExamples(t *testing.T) {
	letters := strings.Repeat("a", 65535)
	if l, code, at := scan.All(letters); len(l) != 1 || l[0] != (api.Tok{Kind: api.TokName, Text: letters, Place: api.Place{Line: 1, Column: 1}}) || code != api.OK || at != (api.Place{}) {
		t.Errorf("65535 letters: %s", samples.AnswerWord(l, code, at))
	}
	answers(t, letters+"a", `ErrScanLong at 0 1:1`)
	answers(t, "\""+letters, `ErrScanLong at 0 1:1`)
	answers(t, "//"+strings.Repeat(" ", 65534), `ErrScanLong at 0 1:1`)
	answers(t, "//"+strings.Repeat(" ", 65533), `Line "//" 0 1:1 0`)
}

// outcome is an answer's error and its place, and how many tokens stand ahead.
type outcome struct {
	tokens int
	code   api.Errno
	at     int
}

// comesOf holds it of a source.
func comesOf(t *testing.T, source string, want outcome) {
	t.Helper()
	l, code, at := scan.All(source)
	if got := (outcome{len(l), code, at.At}); got != want {
		t.Errorf("All(%s): %d, not %d", samples.Short(source), got, want)
	}
	asPlain(t, source)
}

// Where several errors come at one character: a line end in a text is ErrScanOpen, else ErrScanLong goes ahead of
// ErrScanText. Where the source ends no character is too much.
func TestP10_1SeveralErrorsAtOneCharacter(t *testing.T) {
	const most = api.MaxTok
	text := func(n int) string { return samples.Filled("\"", n, "") }
	comesOf(t, text(most)+"\n", outcome{0, api.ErrScanOpen, 0})
	comesOf(t, text(most)+"\n\"", outcome{0, api.ErrScanOpen, 0})
	comesOf(t, text(most), outcome{0, api.ErrScanOpen, 0})
	comesOf(t, text(most)+"\x01", outcome{0, api.ErrScanLong, 0})
	comesOf(t, text(most)+"\x7f\"", outcome{0, api.ErrScanLong, 0})
	comesOf(t, text(most)+"\r\n", outcome{0, api.ErrScanLong, 0})
	comesOf(t, text(most)+"\t", outcome{0, api.ErrScanLong, 0})
	comesOf(t, text(most)+"\"", outcome{0, api.ErrScanLong, 0})
	comesOf(t, text(most)+"\xff", outcome{0, api.ErrScanLong, 0})
	comesOf(t, text(most)+"\u65e5", outcome{0, api.ErrScanLong, 0})
	comesOf(t, text(most-1)+"\x01", outcome{0, api.ErrScanText, most - 1})
	comesOf(t, text(most-1)+"\x7f\"", outcome{0, api.ErrScanText, most - 1})
	comesOf(t, text(most-1)+"\n", outcome{0, api.ErrScanOpen, 0})
	comesOf(t, text(most-1)+"\"", outcome{1, api.OK, 0})
	comesOf(t, text(most-1)+"\"?", outcome{1, api.ErrScanByte, most})
	comesOf(t, text(most-1)+"\u00e9", outcome{0, api.ErrScanLong, 0})
	comesOf(t, text(most-1)+"\xff\n", outcome{0, api.ErrScanOpen, 0})
	comesOf(t, text(most-1)+"\xc3", outcome{0, api.ErrScanOpen, 0})
	comesOf(t, text(most-2)+"\u00e9", outcome{0, api.ErrScanOpen, 0})
	comesOf(t, text(most-2)+"\u65e5\n", outcome{0, api.ErrScanLong, 0})
	comesOf(t, text(most-3)+"\U00010400\n", outcome{0, api.ErrScanLong, 0})
	comesOf(t, text(most+1), outcome{0, api.ErrScanLong, 0})
	comesOf(t, text(most+1)+"\n", outcome{0, api.ErrScanLong, 0})
	comesOf(t, text(most+9)+"\x01", outcome{0, api.ErrScanLong, 0})
	comesOf(t, "'\n", outcome{0, api.ErrScanOpen, 0})
	comesOf(t, "'a\n", outcome{0, api.ErrScanOpen, 0})
}

func TestP10_1CommentsAtTheLimit(t *testing.T) {
	const most = api.MaxTok
	block := func(n int) string { return samples.Filled("{", n, "") }
	comesOf(t, block(most), outcome{0, api.ErrScanOpen, 0})
	comesOf(t, block(most)+"}", outcome{0, api.ErrScanLong, 0})
	comesOf(t, block(most)+"\n", outcome{0, api.ErrScanLong, 0})
	comesOf(t, block(most)+"\x01", outcome{0, api.ErrScanLong, 0})
	comesOf(t, block(most-1)+"}", outcome{1, api.OK, 0})
	comesOf(t, block(most-1)+"}}", outcome{1, api.ErrScanByte, most})
	comesOf(t, block(most-1)+"\u00e9}", outcome{0, api.ErrScanLong, 0})
	comesOf(t, block(most-1)+"\n", outcome{0, api.ErrScanOpen, 0})
	comesOf(t, block(most-1)+"\xe6\x97", outcome{0, api.ErrScanLong, 0})
	line := func(n int) string { return samples.Filled("//", n, "") }
	comesOf(t, line(most), outcome{1, api.OK, 0})
	comesOf(t, line(most)+"\n", outcome{1, api.OK, 0})
	comesOf(t, line(most)+"\n?", outcome{1, api.ErrScanByte, most + 1})
	comesOf(t, line(most)+" ", outcome{0, api.ErrScanLong, 0})
	comesOf(t, line(most)+"\r\n", outcome{0, api.ErrScanLong, 0})
	comesOf(t, line(most-1)+"\r\n", outcome{1, api.OK, 0})
	comesOf(t, line(most-1)+" \t\n", outcome{0, api.ErrScanLong, 0})
	comesOf(t, line(most-1)+"\u00e9", outcome{0, api.ErrScanLong, 0})
}

// The character that ends a name or a number is none of it.
func TestP10_1WordsAtTheLimit(t *testing.T) {
	const most = api.MaxTok
	for _, word := range []string{samples.Filled("a", most, ""), samples.Filled("", most, ""), samples.Filled("a", most, "\U00010400")} {
		comesOf(t, word+" ", outcome{1, api.OK, 0})
		comesOf(t, word+"\n", outcome{1, api.OK, 0})
		comesOf(t, word+";", outcome{2, api.OK, 0})
		comesOf(t, word+"//", outcome{2, api.OK, 0})
		comesOf(t, word+"{}", outcome{2, api.OK, 0})
		comesOf(t, word+"\"\"", outcome{2, api.OK, 0})
		comesOf(t, word+"?", outcome{1, api.ErrScanByte, most})
		comesOf(t, word+"\xff", outcome{1, api.ErrScanByte, most})
		comesOf(t, word+"\xc3", outcome{1, api.ErrScanByte, most})
		comesOf(t, word+"\ufffd", outcome{1, api.ErrScanByte, most})
		comesOf(t, word+"'", outcome{1, api.ErrScanOpen, most})
	}
	comesOf(t, samples.Filled("", most, "")+"a", outcome{2, api.OK, 0})
	comesOf(t, samples.Filled("", most, "")+"\u00e9", outcome{2, api.OK, 0})
	comesOf(t, samples.Filled("a", most, "")+"0", outcome{0, api.ErrScanLong, 0})
	comesOf(t, samples.Filled("a", most, "")+"\u0301", outcome{0, api.ErrScanLong, 0})
	comesOf(t, "x "+samples.Filled("a", most, "b")+"c;", outcome{1, api.ErrScanLong, 2})
	comesOf(t, samples.Filled("", most, "")+"0a", outcome{0, api.ErrScanLong, 0})
}

// The limit is a token's: a source, and what stands between tokens, may be longer.
func TestP10_1LongBetweenTokens(t *testing.T) {
	gap := strings.Repeat(" \n\t\r", 50000)
	answers(t, "a"+gap+"b", `Name "a" 0 1:1 0; Name "b" 200001 50001:3 50000`)
	answers(t, gap+"?", `ErrScanByte at 200000 50001:3`)
	name := samples.Filled("a", api.MaxTok, "")
	comesOf(t, name+" "+name+"\n"+name, outcome{3, api.OK, 0})
	comesOf(t, name+" "+name+"\n"+name+"x", outcome{2, api.ErrScanLong, 2 * (api.MaxTok + 1)})
}
