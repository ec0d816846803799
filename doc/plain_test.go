package doc_test

import (
	"fmt"
	"regexp"
	"slices"
	"strconv"
	"strings"
	"testing"

	"colophon/api"
	"colophon/doc"
)

// The chapter's words once more, the plain way: pieces by conditions one by one, lines by expressions.

var (
	textLine  = regexp.MustCompile(`^text ((?:[ -\[\]-~]|\\\\|\\x(?:[0189a-f][0-9a-f]|7f))+)$`)
	breakLine = regexp.MustCompile(`^break (0|[1-9][0-9]{0,3})$`)
	beginLine = regexp.MustCompile(`^begin (0|[1-9][0-9]{0,3})( even)?$`)
	escape    = regexp.MustCompile(`\\(?:\\|x..)`)
)

func plainRight(d api.Doc) bool {
	inText := d.Kind == api.Text
	switch {
	case d.Kind < 1 || d.Kind > 7:
		return false
	case inText && (len(d.Text) < 1 || len(d.Text) > 65535):
		return false
	case inText && strings.Trim(d.Text[:1]+d.Text[len(d.Text)-1:], " \n") != d.Text[:1]+d.Text[len(d.Text)-1:]:
		return false
	case !inText && d.Text != "":
		return false
	case d.Kind == api.Break && (d.Blanks < 0 || d.Blanks > 1000):
		return false
	case d.Kind != api.Break && d.Blanks != 0:
		return false
	case d.Kind == api.Begin && (d.Indent < 0 || d.Indent > 1000):
		return false
	case d.Kind != api.Begin && (d.Indent != 0 || d.Even):
		return false
	}
	return true
}

func plainCheck(l []api.Doc) (api.Errno, int) {
	if len(l) > 2097152 {
		return 2, 0
	}
	var open []int
	for i, d := range l {
		if !plainRight(d) || d.Kind == api.End && len(open) == 0 {
			return 70, i
		}
		if d.Kind == api.Begin {
			open = append(open, i)
		}
		if d.Kind == api.End {
			open = open[:len(open)-1]
		}
	}
	if len(open) > 0 {
		return 70, len(l)
	}
	return 0, 0
}

func plainEscaped(t string) string {
	var told strings.Builder
	for _, c := range []byte(t) {
		switch {
		case c == '\\':
			told.WriteString(`\\`)
		case c >= 0x20 && c <= 0x7e:
			told.WriteByte(c)
		default:
			fmt.Fprintf(&told, `\x%02x`, c)
		}
	}
	return told.String()
}

func plainLine(d api.Doc) string {
	switch d.Kind {
	case api.Text:
		return "text " + plainEscaped(d.Text)
	case api.Blank:
		return "blank"
	case api.Break:
		return fmt.Sprintf("break %d", d.Blanks)
	case api.Hard:
		return "hard"
	case api.Empty:
		return "empty"
	case api.Begin:
		if d.Even {
			return fmt.Sprintf("begin %d even", d.Indent)
		}
		return fmt.Sprintf("begin %d", d.Indent)
	}
	return "end"
}

func plainPrint(l []api.Doc) (string, api.Errno) {
	if e, _ := plainCheck(l); e != 0 {
		return "", e
	}
	var told strings.Builder
	for _, d := range l {
		told.WriteString(plainLine(d) + "\n")
	}
	if told.Len() > 4194304 {
		return "", 2
	}
	return told.String(), 0
}

func plainUnescaped(s string) string {
	return escape.ReplaceAllStringFunc(s, func(e string) string {
		if e == `\\` {
			return `\`
		}
		code, _ := strconv.ParseUint(e[2:], 16, 8)
		return string([]byte{byte(code)})
	})
}

func plainPiece(line string) (api.Doc, bool) {
	var d api.Doc
	switch line {
	case "blank":
		d.Kind = api.Blank
	case "hard":
		d.Kind = api.Hard
	case "empty":
		d.Kind = api.Empty
	case "end":
		d.Kind = api.End
	}
	if m := textLine.FindStringSubmatch(line); m != nil {
		d = api.Doc{Kind: api.Text, Text: plainUnescaped(m[1])}
	}
	if m := breakLine.FindStringSubmatch(line); m != nil {
		n, _ := strconv.Atoi(m[1])
		d = api.Doc{Kind: api.Break, Blanks: n}
	}
	if m := beginLine.FindStringSubmatch(line); m != nil {
		n, _ := strconv.Atoi(m[1])
		d = api.Doc{Kind: api.Begin, Indent: n, Even: m[2] != ""}
	}
	return d, plainRight(d)
}

func plainParse(s string) ([]api.Doc, api.Errno, int) {
	if len(s) > 4194304 {
		return nil, 2, 0
	}
	lines := strings.SplitAfter(s, "\n")
	if lines[len(lines)-1] == "" {
		lines = lines[:len(lines)-1]
	}
	var l []api.Doc
	for i, line := range lines {
		d, good := plainPiece(strings.TrimSuffix(line, "\n"))
		if !good || !strings.HasSuffix(line, "\n") {
			return nil, 71, i + 1
		}
		l = append(l, d)
	}
	if e, at := plainCheck(l); e != 0 {
		return nil, e, at + 1
	}
	return l, 0, 0
}

// short is a text as a failure tells it.
func short(s string) string {
	if len(s) > 120 {
		return fmt.Sprintf("%q.. (%d bytes)", s[:120], len(s))
	}
	return strconv.Quote(s)
}

func shortLayout(l []api.Doc) string {
	told := ""
	for i, d := range l {
		if i == 12 {
			return fmt.Sprintf("%s.. (%d pieces)", told, len(l))
		}
		told += fmt.Sprintf("{%d %s %d %d %t} ", d.Kind, short(d.Text), d.Blanks, d.Indent, d.Even)
	}
	return told
}

// holdLayout holds Check and Print of a layout against the plain way; it tells whether the layout may be.
func holdLayout(t *testing.T, l []api.Doc) bool {
	t.Helper()
	want, wantAt := plainCheck(l)
	if e, at := doc.Check(l); e != want || at != wantAt {
		t.Errorf("Check of %s= %d, %d, not %d, %d", shortLayout(l), e, at, want, wantAt)
	}
	wantText, wantErr := plainPrint(l)
	if s, e := doc.Print(l); e != wantErr || s != wantText {
		t.Errorf("Print of %s= %s, %d, not %s, %d", shortLayout(l), short(s), e, short(wantText), wantErr)
	}
	return want == 0
}

// holdText holds Parse of a text against the plain way; it tells what the error should be.
func holdText(t *testing.T, s string) api.Errno {
	t.Helper()
	want, wantErr, wantLine := plainParse(s)
	l, e, line := doc.Parse(s)
	if e != wantErr || line != wantLine || !slices.Equal(l, want) {
		t.Errorf("Parse(%s) = %s, %d, %d, not %s, %d, %d", short(s), shortLayout(l), e, line, shortLayout(want), wantErr, wantLine)
	}
	return wantErr
}
