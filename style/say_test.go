package style_test

import (
	"fmt"
	"slices"
	"strconv"
	"strings"
	"testing"

	"colophon/api"
	"colophon/class"
	"colophon/samples"
	"colophon/scan"
	"colophon/style"
	"colophon/syntax"
	"colophon/tree"
	"colophon/whole"
)

// tokens are those of a source that has no error, as a scanner gives them.
func tokens(source string) []api.Tok {
	l, code, at := scan.All(source)
	if code != api.OK {
		panic(fmt.Sprintf("%q: %s at %s", source, samples.ErrorWord(code), samples.PlaceWord(at)))
	}
	return l
}

// eventsOf are those of a program's tokens.
func eventsOf(l []api.Tok) []api.Event {
	n, code, at := syntax.Program(l)
	if code != api.OK {
		panic(fmt.Sprintf("%s at %d of %d tokens", samples.ErrorWord(code), at, len(l)))
	}
	return tree.Events(n)
}

// event is the one that a word stands for: +X opens, -X closes X, a comment as it is written is its Note, another word its
// Leaf. Behind ^ stand the token's Feeds; key:, sign: and name: ahead of a Leaf's text say of which kind it is.
func event(word string) api.Event {
	if node, ok := strings.CutPrefix(word, "+"); ok && samples.NodeOf(node) != 0 {
		return api.Event{Kind: api.Open, Node: samples.NodeOf(node)}
	}
	if node, ok := strings.CutPrefix(word, "-"); ok && samples.NodeOf(node) != 0 {
		return api.Event{Kind: api.Close, Node: samples.NodeOf(node)}
	}
	text, digits, _ := strings.Cut(word, "^")
	feeds, _ := strconv.Atoi(digits)
	tok := tokOf(text)
	tok.Feeds = feeds
	if tok.Kind == api.TokLine || tok.Kind == api.TokBlock {
		return api.Event{Kind: api.Note, Tok: tok}
	}
	return api.Event{Kind: api.Leaf, Tok: tok}
}

func tokOf(text string) api.Tok {
	for ahead, kind := range map[string]api.TokKind{"key:": api.TokKey, "sign:": api.TokSign, "name:": api.TokName} {
		if rest, ok := strings.CutPrefix(text, ahead); ok {
			return api.Tok{Kind: kind, Text: rest}
		}
	}
	switch {
	case strings.HasPrefix(text, "//"):
		return api.Tok{Kind: api.TokLine, Text: text}
	case strings.HasPrefix(text, "{"):
		return api.Tok{Kind: api.TokBlock, Text: text}
	case class.IsKey(text):
		return api.Tok{Kind: api.TokKey, Text: text}
	case class.Sign(text, 0) == text:
		return api.Tok{Kind: api.TokSign, Text: text}
	}
	return api.Tok{Kind: api.TokName, Text: text}
}

// events are those that words stand for.
func events(words string) []api.Event {
	var l []api.Event
	for word := range strings.FieldsSeq(words) {
		l = append(l, event(word))
	}
	return l
}

// answer is what a call tells.
type answer struct {
	laid []api.Doc
	code api.Errno
}

func (a answer) same(b answer) bool { return a.code == b.code && slices.Equal(a.laid, b.laid) }

func (a answer) String() string {
	if a.code != api.OK {
		return strings.TrimSpace(samples.Words(a.laid) + " " + samples.ErrorWord(a.code))
	}
	return samples.Words(a.laid)
}

func put(s *style.Styler, e api.Event) answer {
	laid, code := s.Put(e)
	return answer{laid, code}
}

func closed(s *style.Styler) answer {
	laid, code := s.Close()
	return answer{laid, code}
}

// behind is a styler to which events were put, all of them OK.
func behind(t *testing.T, l []api.Event) *style.Styler {
	t.Helper()
	s := style.New()
	for i, e := range l {
		if a := put(s, e); a.code != api.OK {
			t.Fatalf("%s: %s at %d", samples.EventsWord(l, api.OK), a, i)
		}
	}
	return s
}

// layout is all that is laid of events, up to Close.
func layout(l []api.Event) ([]api.Doc, api.Errno) {
	s := style.New()
	var all []api.Doc
	for _, e := range l {
		a := put(s, e)
		if a.code != api.OK {
			return nil, a.code
		}
		all = append(all, a.laid...)
	}
	a := closed(s)
	return append(all, a.laid...), a.code
}

// laidOf is the layout of a source that is a program.
func laidOf(t *testing.T, source string) []api.Doc {
	t.Helper()
	l, code := layout(eventsOf(tokens(source)))
	if code != api.OK {
		t.Fatalf("%q: %s", source, samples.ErrorWord(code))
	}
	return l
}

// printed is what whole.Print tells of a layout.
func printed(t *testing.T, width int, l []api.Doc) string {
	t.Helper()
	s, code := whole.Print(width, l)
	if code != api.OK {
		t.Fatalf("%s: %s", samples.Words(l), samples.ErrorWord(code))
	}
	return s
}

// lays holds what is laid for the last of some events, told in words (a Text with its quotes).
func lays(t *testing.T, words, want string) {
	t.Helper()
	l := events(words)
	s := behind(t, l[:len(l)-1])
	if got := put(s, l[len(l)-1]).String(); got != want {
		t.Errorf("%s\n lays %s\n  not %s", words, got, want)
	}
}
