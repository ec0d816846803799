package style_test

import (
	"math/rand/v2"
	"runtime"
	"slices"
	"strings"
	"sync"
	"testing"
	"unsafe"
	"weak"

	"colophon/api"
	"colophon/grammar"
	"colophon/samples"
	"colophon/style"
)

// programs are the events of some programs, with comments and any Feeds.
func programs() [][]api.Event {
	g := grammar.New()
	r := rand.New(rand.NewPCG(15, 6))
	var all [][]api.Event
	for size := range 60 {
		all = append(all, eventsOf(tokens(samples.SomeGapped(r.IntN, g.Some(r.IntN, 5*size)))))
	}
	return all
}

// answersOf is what each call tells of events, and Close.
func answersOf(l []api.Event) []answer {
	s := style.New()
	var all []answer
	for _, e := range l {
		all = append(all, put(s, e))
	}
	return append(all, closed(s))
}

// Stylers know nothing of one another: each has an event of its own, in turns, and tells what one that is alone tells.
func TestR2StylersSideBySide(t *testing.T) {
	all := programs()
	stylers := make([]*style.Styler, len(all))
	got := make([][]answer, len(all))
	most := 0
	for i, l := range all {
		stylers[i] = style.New()
		most = max(most, len(l))
	}
	for at := range most + 1 {
		for i, l := range all {
			if at < len(l) {
				got[i] = append(got[i], put(stylers[i], l[at]))
			} else if at == len(l) {
				got[i] = append(got[i], closed(stylers[i]))
			}
		}
	}
	for i, l := range all {
		if !slices.EqualFunc(got[i], answersOf(l), answer.same) {
			t.Fatalf("%s: other answers in turns", samples.EventsWord(l, api.OK))
		}
	}
}

func TestR2StylersInGoroutines(t *testing.T) {
	all := programs()
	var want [][]answer
	for _, l := range all {
		want = append(want, answersOf(l))
	}
	var wait sync.WaitGroup
	for range 8 {
		wait.Go(func() {
			for i, l := range all {
				if !slices.EqualFunc(answersOf(l), want[i], answer.same) {
					t.Error("a styler tells something else in a goroutine")
				}
			}
		})
	}
	wait.Wait()
}

// scribble writes over what was told, and over its spare room.
func scribble(l []api.Doc) {
	all := l[:cap(l)]
	for i := range all {
		all[i] = api.Doc{Kind: 99, Text: "other", Blanks: 98}
	}
}

// What is told is the caller's own: nothing that is done to it is seen in another answer, and no answer changes one that
// was told ahead of it.
func TestR2WhatIsToldIsTheCallersOwn(t *testing.T) {
	for _, l := range append(programs(), events("+Group ( ( ( +Expr {c} ( {c} a -Expr {d} b -Group")) {
		want := answersOf(l)
		s := style.New()
		for i, e := range l {
			got := put(s, e)
			if !got.same(want[i]) {
				t.Fatalf("%s: %s, not %s", samples.EventWord(e), got, want[i])
			}
			scribble(got.laid)
		}
		got := closed(s)
		if !got.same(want[len(l)]) {
			t.Fatalf("Close: %s", got)
		}
		scribble(got.laid)
		first := answersOf(l)
		for i := range first {
			first[i].laid = append(first[i].laid, api.Doc{Kind: 97})[:len(first[i].laid)]
		}
		if !slices.EqualFunc(first, want, answer.same) {
			t.Fatal("what is put behind one answer is seen in another")
		}
	}
}

// putsGreat puts an event whose token's text is the end of a great one that no one else has, and is where that stands.
func putsGreat(s *style.Styler, kind api.EventKind, tok api.Tok) (weak.Pointer[byte], api.Errno) {
	great := strings.Repeat("great", 200) + tok.Text
	tok.Text = great[len(great)-len(tok.Text):]
	_, code := s.Put(api.Event{Kind: kind, Node: api.Block, Tok: tok})
	return weak.Make(unsafe.StringData(great)), code
}

// Of what was put no text is kept.
func TestR2NoTextIsKept(t *testing.T) {
	for _, kind := range []api.EventKind{0, api.Open, api.Leaf, api.Close, api.Note} {
		for _, word := range []string{"a", "begin", ";", "{c}", "//c", "{c}^1", "//c^2"} {
			s := behind(t, events("+Block a"))
			text, code := putsGreat(s, kind, event(word).Tok)
			runtime.GC()
			if text.Value() != nil {
				t.Errorf("%d of %s: %s, and the text is kept", kind, word, samples.ErrorWord(code))
			}
			runtime.KeepAlive(s)
		}
	}
}

// What is kept does not grow with what was put: it is the open nodes, and what waits.
func TestR2NothingGrows(t *testing.T) {
	s := behind(t, events("+Program program p ; +Block begin +Body"))
	l := eventsOf(tokens("program p;begin a:=b(c)+d{e};if f then skip else skip end;\n\nbegin skip end end."))
	size := func() uint64 {
		runtime.GC()
		var m runtime.MemStats
		runtime.ReadMemStats(&m)
		return m.HeapAlloc
	}
	puts := func(times int) {
		for range times {
			for _, e := range l {
				if _, code := s.Put(e); code != api.OK {
					t.Fatal(samples.ErrorWord(code))
				}
			}
			// The line that ends each program goes with the next token.
			put(s, event("a"))
		}
	}
	puts(10)
	ahead := size()
	puts(3000)
	if now := size(); now > ahead+100000 {
		t.Errorf("%d bytes more are kept", now-ahead)
	}
	runtime.KeepAlive(s)
}

// No panic comes out, whatever the events are, be they refused or not, and all of it follows the plain way.
func TestR1AnyEvents(t *testing.T) {
	t.Parallel()
	r := rand.New(rand.NewPCG(15, 7))
	odd := samples.TokTexts()
	for range 20000 {
		var l []api.Event
		for range r.IntN(12) {
			e := api.Event{Kind: api.EventKind(r.IntN(6)), Node: api.NodeKind(r.IntN(35)), Tok: api.Tok{Kind: api.TokKind(r.IntN(10)), Text: odd[r.IntN(len(odd))], Feeds: r.IntN(5) - 1}}
			if r.IntN(9) == 0 {
				e = api.Event{Kind: api.EventKind(r.IntN(256)), Node: api.NodeKind(r.IntN(256)), Tok: api.Tok{Kind: api.TokKind(r.IntN(256)), Feeds: r.Int() - r.Int()}}
			}
			l = append(l, e)
		}
		follows(t, l)
	}
}
