package driver_test

import (
	"math/rand/v2"
	"strings"
	"testing"

	"colophon/api"
	"colophon/driver"
	"colophon/lex"
	"colophon/parse"
	"colophon/plain"
	"colophon/samples"
	"colophon/stream"
	"colophon/style"
)

// other is what is to have been told of what has come, had anew from its first byte on.
type other struct {
	parser *parse.Parser
	styler *style.Styler
	laid   []api.Doc
	wrong  string
}

// allOf is what all calls together are to have told behind the last byte that has come; behind Close, too, if it is to be
// closed.
func allOf(width int, come string, close bool) answer {
	o := &other{parser: parse.New(), styler: style.New()}
	l := lex.New()
	o.take(l.Feed(come))
	if close && o.wrong == "" {
		o.take(l.Close())
		o.end(samples.EndOf(come))
	}
	if close && o.wrong == "" {
		text := plain.Print(width, o.laid)
		return answer{text: text, same: text == come}
	}
	return answer{text: begun(width, o.laid), wrong: o.wrong}
}

// take takes what a lexer tells, up to what is wrong.
func (o *other) take(l []api.Tok, code api.Errno, at api.Place) {
	for _, tok := range l {
		events, no := o.parser.Put(tok)
		if no != api.OK {
			o.wrong = samples.FaultAt(no, tok.Place)
			return
		}
		o.lay(events)
	}
	if code != api.OK {
		o.wrong = samples.FaultAt(code, at)
	}
}

func (o *other) lay(events []api.Event) {
	for _, e := range events {
		laid, _ := o.styler.Put(e)
		o.laid = append(o.laid, laid...)
	}
}

// end ends the program, if nothing was wrong.
func (o *other) end(at api.Place) {
	if o.wrong != "" {
		return
	}
	events, code := o.parser.Close()
	if code != api.OK {
		o.wrong = samples.FaultAt(code, at)
		return
	}
	o.lay(events)
	laid, _ := o.styler.Close()
	o.laid = append(o.laid, laid...)
}

// begun is what can be printed of a layout's beginning.
func begun(width int, l []api.Doc) string {
	p, _ := stream.New(width)
	var b strings.Builder
	for _, d := range l {
		s, _ := p.Put(d)
		b.WriteString(s)
	}
	return b.String()
}

// course is what is to have been told behind each byte of a source, and behind its Close.
type course struct {
	width  int
	source string
	behind []answer // by how many bytes have come
	all    answer
}

func courseOf(width int, source string) *course {
	c := &course{width: width, source: source, all: allOf(width, source, true)}
	for n := range len(source) + 1 {
		c.behind = append(c.behind, allOf(width, source[:n], false))
	}
	return c
}

// next is what a call is to tell, if all ahead of it have told so much: what is told now and was not then.
func (a answer) next(now answer) answer {
	if a.wrong != "" {
		return refused("", a.wrong)
	}
	return answer{now.text[len(a.text):], now.same, now.wrong}
}

// cut drives the source in chunks that end behind so many bytes, and the rest, and holds what each call tells, with Check
// and without.
func (c *course) cut(t *testing.T, ends ...int) {
	t.Helper()
	loud, quiet := made(t, api.Options{Width: c.width}), made(t, api.Options{Width: c.width, Check: true})
	at, last := 0, answer{}
	for _, end := range append(ends, len(c.source)) {
		chunk, want := c.source[at:end], last.next(c.behind[end])
		if got, still := fed(loud, chunk), fed(quiet, chunk); got != want || still != want.quiet() {
			t.Fatalf("width %d, %q cut at %d, to byte %d: %s, with Check %s, not %s", c.width, c.source, ends, end, got, still, want)
		}
		at, last = end, c.behind[end]
	}
	want := last.next(c.all)
	if got, still := closed(loud), closed(quiet); got != want || still != want.quiet() {
		t.Fatalf("width %d, %q cut at %d, Close: %s, with Check %s, not %s", c.width, c.source, ends, got, still, want)
	}
	over := "ErrDone at 0 0:0"
	if want.wrong != "" {
		over = want.wrong
	}
	stays(t, loud, over)
	stays(t, quiet, over)
}

// stays holds that every call tells nothing but what is wrong.
func stays(t *testing.T, d *driver.Driver, wrong string) {
	t.Helper()
	want := refused("", wrong)
	for _, s := range []string{"", "program p;begin skip end.", "?", ";"} {
		if got := fed(d, s); got != want {
			t.Fatalf("Feed of %q: %s, not %s", s, got, want)
		}
		if got := closed(d); got != want {
			t.Fatalf("Close: %s, not %s", got, want)
		}
	}
}

// bytewise cuts behind each byte, with so many chunks of nothing at each cut.
func (c *course) bytewise(t *testing.T, nothings int) {
	t.Helper()
	var ends []int
	for at := range len(c.source) + 1 {
		for range nothings + 1 {
			ends = append(ends, at)
		}
	}
	c.cut(t, ends...)
}

// inTwo cuts at each place.
func (c *course) inTwo(t *testing.T) {
	t.Helper()
	for at := range len(c.source) + 1 {
		c.cut(t, at)
	}
}

// inSome cuts in some ways.
func (c *course) inSome(t *testing.T, r *rand.Rand, ways int) {
	t.Helper()
	for range ways {
		c.cut(t, someCuts(r, len(c.source))...)
	}
}

// someCuts are places where a text of so many bytes is cut, some of them twice and more.
func someCuts(r *rand.Rand, size int) []int {
	var ends []int
	often := 1 + r.IntN(12)
	for at := range size + 1 {
		for r.IntN(often) == 0 && r.IntN(8) > 0 {
			ends = append(ends, at)
		}
	}
	return ends
}
