package samples

import (
	"strings"

	"colophon/api"
)

// Gaps are what may stand between two tokens: empty lines, and comments of each sort, behind a token and alone, one and
// several, with empty lines around them.
func Gaps() []string {
	return []string{
		"", "\n", "\n\n", "\n\n\n", "{c}", "{c}\n", "{c}\n\n", "\n{c}", "\n{c}\n", "\n{c}\n\n", "\n\n{c}", "\n\n{c}\n", "\n\n{c}\n\n", "//c\n", "//c\n\n", "\n//c\n", "\n\n//c\n\n",
		"{c\n  d\n}", "\n{c\n\nd} ", "{c}{d}", "{c}\n{d}", "{c}\n\n{d}", "\n{c}{d}", "{c}//d\n", "\n{c}//d\n\n", "//c\n//d\n", "//c\n\n//d\n", "\n\n//c\n\n{d}\n\n", "// \xff\u65e5 c \t\r\n", "{\xc3}", "//\n",
	}
}

// Gapped is a source of tokens, with what gap says ahead of each of them, and behind the last one.
func Gapped(l []api.Tok, gap func(at int) string) string {
	var b strings.Builder
	for i, tok := range l {
		b.WriteString(" " + gap(i) + " " + tok.Text)
	}
	return b.String() + " " + gap(len(l))
}

// SomeGapped is a source of tokens with gaps of any sort between them; pick says which of n comes next.
func SomeGapped(pick func(n int) int, l []api.Tok) string {
	all, often := Gaps(), 1+pick(20)
	return Gapped(l, func(int) string {
		gap := ""
		for pick(often) == 0 && len(gap) < 20 {
			gap += " " + all[pick(len(all))]
		}
		return gap
	})
}

// Said are a source's tokens and comments, as far as they are the same when it is formatted: of a comment its Feeds are 0,
// if it is behind a token or a comment in its line, and else 1.
func Said(l []api.Tok) []api.Tok {
	var all []api.Tok
	for i, tok := range l {
		said := api.Tok{Kind: tok.Kind, Text: tok.Text}
		if (tok.Kind == api.TokLine || tok.Kind == api.TokBlock) && (tok.Feeds > 0 || i == 0) {
			said.Feeds = 1
		}
		all = append(all, said)
	}
	return all
}
