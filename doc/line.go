package doc

import (
	"strconv"
	"strings"

	"colophon/api"
)

const even = " even"

// words are those with which the kinds' lines begin. The empty one stands for no kind.
var words = [...]string{
	api.Text:  "text",
	api.Blank: "blank",
	api.Break: "break",
	api.Hard:  "hard",
	api.Empty: "empty",
	api.Begin: "begin",
	api.End:   "end",
}

// appendLine adds the line of a right piece.
func appendLine(b []byte, d api.Doc) []byte {
	b = append(b, words[d.Kind]...)
	switch d.Kind {
	case api.Text:
		b = appendEscaped(append(b, ' '), d.Text)
	case api.Break:
		b = appendNumber(append(b, ' '), d.Blanks)
	case api.Begin:
		b = appendNumber(append(b, ' '), d.Indent)
		if d.Even {
			b = append(b, even...)
		}
	}
	return append(b, '\n')
}

func appendNumber(b []byte, n int) []byte { return strconv.AppendInt(b, int64(n), 10) }

// readLine is the right piece that has the line; false: there is none.
func readLine(line string) (api.Doc, bool) {
	word, rest, more := strings.Cut(line, " ")
	d := api.Doc{Kind: kindOf(word)}
	good := false
	switch d.Kind {
	case api.Text:
		d.Text, good = unescaped(rest)
	case api.Begin:
		rest, d.Even = strings.CutSuffix(rest, even)
		fallthrough // what is left of it is a break's: a number
	case api.Break:
		n := 0
		n, good = number(rest)
		if d.Kind == api.Begin {
			d.Indent = n
		} else {
			d.Blanks = n
		}
	default:
		good = !more
	}
	if !good || !right(d) {
		return api.Doc{}, false
	}
	return d, true
}

// kindOf is the kind whose lines begin with the word; 0: none does.
func kindOf(word string) api.DocKind {
	for kind := range words {
		if words[kind] == word {
			return api.DocKind(kind)
		}
	}
	return 0
}

// number reads one that is written as lines write it, and in no other way.
func number(s string) (int, bool) {
	n, err := strconv.Atoi(s)
	return n, err == nil && strconv.Itoa(n) == s
}
