package style_test

import (
	"math/rand/v2"
	"slices"
	"strings"
	"testing"

	"colophon/api"
	"colophon/doc"
	"colophon/grammar"
	"colophon/samples"
	"colophon/style"
)

// mayBe holds that all that is laid of events is a layout that may be, with the tokens' and the comments' Texts in their
// order, and a line's end behind each TokLine.
func mayBe(t *testing.T, l []api.Event) {
	t.Helper()
	all, code := layout(l)
	if code != api.OK {
		t.Fatalf("%s: %s", samples.EventsWord(l, api.OK), samples.ErrorWord(code))
	}
	if code, at := doc.Check(all); code != api.OK {
		t.Fatalf("%s\n lays %s: %d at %d", samples.EventsWord(l, api.OK), samples.Words(all), code, at)
	}
	rest := l
	toEnd := false
	for _, d := range all {
		if d.Kind == api.Hard {
			toEnd = false
		}
		if d.Kind != api.Text {
			continue
		}
		for rest[0].Kind != api.Leaf && rest[0].Kind != api.Note {
			rest = rest[1:]
		}
		if toEnd || rest[0].Tok.Text != d.Text {
			t.Fatalf("%s\n lays %s: %q behind a TokLine, or out of its order", samples.EventsWord(l, api.OK), samples.Words(all), d.Text)
		}
		toEnd = rest[0].Kind == api.Note && rest[0].Tok.Kind == api.TokLine
		rest = rest[1:]
	}
	if slices.ContainsFunc(rest, func(e api.Event) bool { return e.Kind == api.Leaf || e.Kind == api.Note }) {
		t.Fatalf("%s\n lays %s", samples.EventsWord(l, api.OK), samples.Words(all))
	}
}

// sourced gives comments behind a TokLine a line feed, as a source does.
func sourced(l []api.Event) []api.Event {
	line := false
	for i, e := range l {
		if e.Kind == api.Note && line {
			l[i].Tok.Feeds = max(1, e.Tok.Feeds)
		}
		if e.Kind == api.Note || e.Kind == api.Leaf {
			line = e.Kind == api.Note && e.Tok.Kind == api.TokLine
		}
	}
	return l
}

// Any events, each of which can come: all nodes and all of the table's tokens.
func TestP15_4AnyEvents(t *testing.T) {
	t.Parallel()
	r := rand.New(rand.NewPCG(15, 3))
	words := append(texts(), "{c}", "//c", "//d", "{d\ne}")
	for range 5000 {
		p := newPlain()
		var l []api.Event
		for range 5 + r.IntN(100) {
			e := some(r.IntN, p, words, 8)
			p.put(e)
			l = append(l, e)
		}
		for len(p.nodes) > 0 {
			e := api.Event{Kind: api.Close, Node: p.inner().kind}
			p.put(e)
			l = append(l, e)
		}
		mayBe(t, sourced(l))
	}
}

func TestP15_4Programs(t *testing.T) {
	t.Parallel()
	g := grammar.New()
	r := rand.New(rand.NewPCG(15, 4))
	for _, source := range samples.Programs() {
		for _, gap := range samples.Gaps() {
			mayBe(t, eventsOf(tokens(samples.Gapped(tokens(source), func(int) string { return gap }))))
		}
	}
	for size := range 300 {
		mayBe(t, eventsOf(tokens(samples.SomeGapped(r.IntN, g.Some(r.IntN, 2*size)))))
	}
}

// What is laid for an event does not hang on those behind it: of two programs that begin with the same events the calls
// tell the same there, and what was told stays as it is.
func TestP15_4WhatComesBehind(t *testing.T) {
	var programs [][]api.Event
	for _, source := range samples.Programs() {
		for _, gap := range []string{"", "\n\n", "{c}", "\n//c\n"} {
			programs = append(programs, eventsOf(tokens(samples.Gapped(tokens(source), func(int) string { return gap }))))
		}
	}
	for _, a := range programs {
		for _, b := range programs {
			first, second := style.New(), style.New()
			var told []answer
			for i, e := range a {
				told = append(told, put(first, e))
				if i < len(b) && slices.Equal(a[:i+1], b[:i+1]) {
					if got := put(second, b[i]); !got.same(told[i]) {
						t.Fatalf("%s: %s and %s", samples.EventWord(e), told[i], got)
					}
				}
			}
			closed(first)
			again := style.New()
			for i, e := range a {
				if got := put(again, e); !got.same(told[i]) {
					t.Fatalf("%s: %s, and %s when it was told", samples.EventWord(e), got, told[i])
				}
			}
		}
	}
}

// As many nodes within one another as may be, and more pieces that wait than doc.Check takes.
func TestP15_4Great(t *testing.T) {
	t.Parallel()
	const deep, many = 1 << 16, 1 << 20
	s := style.New()
	for range deep {
		put(s, event("+Expr"))
	}
	if got := put(s, event("a")); len(got.laid) != deep+1 {
		t.Errorf("%d pieces", len(got.laid))
	}
	for range many {
		if got := put(s, event("b")); len(got.laid) != 1 {
			t.Fatal(got)
		}
	}
	for range deep {
		put(s, event("-Expr"))
	}
	if got := closed(s); len(got.laid) != deep || got.code != api.OK {
		t.Errorf("%d pieces, %s", len(got.laid), samples.ErrorWord(got.code))
	}
	s = behind(t, events("+Group"))
	for range many {
		put(s, event("+Rel"))
		put(s, event("-Rel"))
	}
	// A way that looks through all that waits at each comment would not end here.
	for range many {
		if got := put(s, event("{c}")); len(got.laid) > 3 {
			t.Fatal(got)
		}
	}
	if got := put(s, event("a")); len(got.laid) != 2*many+1 {
		t.Errorf("%d pieces", len(got.laid))
	}
	l := eventsOf(tokens("program p;begin a:=" + strings.Repeat("(", 198) + "b" + strings.Repeat(")", 198) + " end."))
	mayBe(t, l)
	follows(t, l)
}
