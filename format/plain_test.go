package format_test

import (
	"strings"

	"colophon/api"
	"colophon/lex"
	"colophon/parse"
	"colophon/samples"
	"colophon/stream"
	"colophon/style"
)

// other is what is to be told of a source, had the other way: by the layers that take it token by token and event by event,
// up to the first thing that is wrong. Whatever comes ahead of that is dropped, as it is not told whole.
type other struct {
	laid   []api.Doc
	styler *style.Styler
	parser *parse.Parser
	wrong  string
}

func otherWay(source string) answer {
	if len(source) > api.MaxText {
		return answer{wrong: samples.FaultAt(api.ErrLong, api.Place{})}
	}
	o := &other{styler: style.New(), parser: parse.New()}
	l := lex.New()
	o.take(l.Feed(source))
	o.take(l.Close())
	if o.wrong == "" {
		events, code := o.parser.Close()
		o.put(events)
		o.refuse(code, samples.EndOf(source))
	}
	if o.wrong != "" {
		return answer{wrong: o.wrong}
	}
	rest, _ := o.styler.Close()
	return answer{laid: append(o.laid, rest...)}
}

// take takes what a lexer tells.
func (o *other) take(l []api.Tok, code api.Errno, at api.Place) {
	for _, tok := range l {
		if o.wrong != "" {
			return
		}
		events, code := o.parser.Put(tok)
		o.put(events)
		o.refuse(code, tok.Place)
	}
	o.refuse(code, at)
}

func (o *other) put(events []api.Event) {
	for _, e := range events {
		laid, _ := o.styler.Put(e)
		o.laid = append(o.laid, laid...)
	}
}

// refuse keeps what is wrong first.
func (o *other) refuse(code api.Errno, at api.Place) {
	if code != api.OK && o.wrong == "" {
		o.wrong = samples.FaultAt(code, at)
	}
}

// streamed is what a layout is at a width, printed piece by piece.
func streamed(width int, l []api.Doc) string {
	p, _ := stream.New(width)
	var b strings.Builder
	for _, d := range l {
		s, _ := p.Put(d)
		b.WriteString(s)
	}
	s, _ := p.Close()
	return b.String() + s
}
