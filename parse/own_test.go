package parse_test

import (
	"math/rand/v2"
	"runtime"
	"slices"
	"strings"
	"sync"
	"testing"
	"unsafe"
	"weak"

	"colophon/api"
	"colophon/grammar"
	"colophon/parse"
	"colophon/samples"
)

// Parsers know nothing of one another: each has a token of its own, in turns, and tells what one that is alone tells.
func TestR2ParsersSideBySide(t *testing.T) {
	g := grammar.New()
	r := rand.New(rand.NewPCG(12, 5))
	for range 50 {
		rows := [][]api.Tok{g.Some(r.IntN, 40), g.Some(r.IntN, 40), g.Some(r.IntN, 9), tokens("program p;begin a:=;"), g.Some(r.IntN, 70)[:9]}
		parsers := make([]*parse.Parser, len(rows))
		got := make([][]string, len(rows))
		most := 0
		for i, l := range rows {
			parsers[i] = parse.New()
			most = max(most, len(l))
		}
		for at := range most + 1 {
			for i, l := range rows {
				if at < len(l) {
					got[i] = append(got[i], put(parsers[i], l[at]).String())
				} else if at == len(l) {
					got[i] = append(got[i], closed(parsers[i]).String())
				}
			}
		}
		for i, l := range rows {
			if got := strings.Join(got[i], " | "); got != said(l) {
				t.Fatalf("%s, in turns: %s, not %s", texts(l), got, said(l))
			}
		}
	}
}

func TestR2ParsersInGoroutines(t *testing.T) {
	l := grammar.New().Some(rand.New(rand.NewPCG(12, 6)).IntN, 1000)
	want, code := all(l)
	if code != api.OK {
		t.Fatal(samples.ErrorWord(code))
	}
	var wait sync.WaitGroup
	for range 8 {
		wait.Go(func() {
			if got, code := all(l); code != api.OK || !slices.Equal(got, want) {
				t.Error("a parser tells something else in a goroutine")
			}
		})
	}
	wait.Wait()
}

// What is told is the caller's own: nothing that is done to it is seen in another answer.
func TestR2WhatIsToldIsTheCallersOwn(t *testing.T) {
	for _, source := range samples.Programs() {
		l := tokens(strings.ReplaceAll(source, ";", ";{note}"))
		want, _ := all(l)
		var got []api.Event
		take := func(told []api.Event) {
			got = append(got, told...)
			for i := range told {
				told[i] = api.Event{Kind: 99, Node: 98, Tok: api.Tok{Text: "other"}}
			}
			spare := told[:cap(told)]
			for i := range spare {
				spare[i] = api.Event{Kind: 97}
			}
		}
		p := parse.New()
		for _, tok := range l {
			told, _ := p.Put(tok)
			take(told)
		}
		told, _ := p.Close()
		take(told)
		if !slices.Equal(got, want) {
			t.Errorf("%s: %s, not %s", source, samples.EventsWord(got, api.OK), samples.EventsWord(want, api.OK))
		}
	}
}

// putsGreat puts a token whose text is the end of a great one that no one else has, and is where that stands.
func putsGreat(p *parse.Parser, kind api.TokKind, text string) (weak.Pointer[byte], api.Errno) {
	great := strings.Repeat("great", 200) + text
	_, code := p.Put(api.Tok{Kind: kind, Text: great[len(great)-len(text):]})
	return weak.Make(unsafe.StringData(great)), code
}

// Of what was put nothing is kept, be it told or not.
func TestR2NoTokenIsKept(t *testing.T) {
	for _, c := range []struct {
		ahead string
		kind  api.TokKind
		text  string
		code  api.Errno
	}{
		{"", api.TokBlock, "{a}", api.OK},
		{"", api.TokName, "a", api.ErrParseTok},
		{"", api.TokKey, "program", api.OK},
		{"program ", api.TokName, "a", api.OK},
		{"program p;", api.TokKey, "end", api.ErrParseTok},
		{"program p;", api.TokKey, "proc", api.OK},
		{"program p;begin ", api.TokName, "a", api.OK},
		{"program p;begin ", api.TokKey, "skip", api.OK},
		{"program p;begin ", api.TokKey, "return", api.OK},
		{"program p;begin a:=", api.TokText, "a", api.OK},
		{"program p;begin a:=", api.TokSign, "(", api.OK},
		{"program p;begin a:=b", api.TokSign, "+", api.OK},
		{"program p;begin a:=b", api.TokSign, "[", api.OK},
		{"program p;begin a:=b", api.TokSign, "?", api.ErrParseTok},
		{"program p;begin a:=b", api.TokLine, "//", api.OK},
	} {
		p := behind(t, tokens(c.ahead))
		text, code := putsGreat(p, c.kind, c.text)
		runtime.GC()
		if code != c.code || text.Value() != nil {
			t.Errorf("%s behind %q: %s, and the text is kept: %t", c.text, c.ahead, samples.ErrorWord(code), text.Value() != nil)
		}
		runtime.KeepAlive(p)
	}
}

// What is kept does not grow with what was put: it is what is still to come, which hangs on how deep it is.
func TestR2NothingGrows(t *testing.T) {
	const statement = ";a[1](b).c:=(d)+e*f and g;if a then skip else skip end;begin skip end"
	p := behind(t, tokens("program p;begin skip"))
	l := tokens(statement)
	size := func() uint64 {
		runtime.GC()
		var m runtime.MemStats
		runtime.ReadMemStats(&m)
		return m.HeapAlloc
	}
	puts := func(times int) {
		for range times {
			for _, tok := range l {
				if _, code := p.Put(tok); code != api.OK {
					t.Fatal(samples.ErrorWord(code))
				}
			}
		}
	}
	puts(10)
	ahead := size()
	puts(3000)
	if now := size(); now > ahead+100000 {
		t.Errorf("%d bytes more are kept", now-ahead)
	}
	runtime.KeepAlive(p)
}

// The same tokens, put to another parser, tell the same.
func TestR2TheSameAgain(t *testing.T) {
	for _, source := range append(samples.Programs(), "program p;begin a:=;", "program p;begin", "{a}") {
		if a, b := said(tokens(source)), said(tokens(source)); a != b {
			t.Errorf("%s, and then %s", a, b)
		}
	}
}
