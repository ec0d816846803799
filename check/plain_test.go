package check_test

import (
	"fmt"
	"strings"

	"colophon/api"
	"colophon/lex"
	"colophon/samples"
)

// sayings tells what a source says, a second way: its tokens as the chunk by chunk lexer gives them, and of a comment
// whether it begins in the line in which the token ahead of it ends.
func sayings(source string) string {
	l := lex.New()
	toks, code, at := l.Feed(source)
	rest, last, where := l.Close()
	if code != api.OK || last != api.OK {
		panic(samples.Short(source) + samples.FaultAt(code, at) + samples.FaultAt(last, where))
	}
	var b strings.Builder
	ends := 0
	for _, tok := range append(toks, rest...) {
		fmt.Fprintf(&b, "%s %q", samples.KindWord(tok.Kind), tok.Text)
		if tok.Kind == api.TokLine || tok.Kind == api.TokBlock {
			fmt.Fprint(&b, " ", tok.Place.Line == ends)
		}
		b.WriteString("\n")
		ends = tok.Place.Line + strings.Count(tok.Text, "\n")
	}
	return b.String()
}
