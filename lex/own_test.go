package lex_test

import (
	"math/rand/v2"
	"runtime"
	"slices"
	"strings"
	"sync"
	"testing"
	"unsafe"
	"weak"

	"colophon/api"
	"colophon/lex"
	"colophon/samples"
	"colophon/scan"
)

// Held is what has come from the first byte on that was not told; and asking changes nothing.
func TestP11_4Held(t *testing.T) {
	for _, c := range []struct {
		chunks []string
		held   int
	}{
		{nil, 0}, {[]string{""}, 0}, {[]string{" \n\t\r"}, 0}, {[]string{"a"}, 1}, {[]string{"a "}, 0}, {[]string{"a;"}, 1}, {[]string{"a; "}, 0},
		{[]string{"  a", "b"}, 2}, {[]string{"\"a\""}, 0}, {[]string{"\"a"}, 2}, {[]string{"\"a\" "}, 0}, {[]string{"x \"a", "b"}, 3},
		{[]string{"'"}, 1}, {[]string{"'a"}, 2}, {[]string{"'a'"}, 0}, {[]string{"{ \n\n"}, 4}, {[]string{"{}"}, 0}, {[]string{"/"}, 1},
		{[]string{"//"}, 2}, {[]string{"// \t ", " "}, 6}, {[]string{"// \n"}, 0}, {[]string{"// \n "}, 0}, {[]string{"\xc3"}, 1}, {[]string{" \xc3"}, 1},
		{[]string{"a \xc3"}, 1}, {[]string{"a\xc3"}, 2}, {[]string{"\n\xf0\x90", "\x90"}, 3}, {[]string{"\"\"\xf0\x90", "\x90"}, 3}, {[]string{":="}, 2},
		{[]string{":\xe6\x97"}, 3}, {[]string{"?"}, 0}, {[]string{"a?b"}, 0}, {[]string{"\"", "\n", "abc"}, 0}, {[]string{"\xff"}, 0},
	} {
		l := lex.New()
		for _, s := range c.chunks {
			l.Feed(s)
			for range 3 {
				l.Held()
			}
		}
		if got := l.Held(); got != c.held {
			t.Errorf("behind %q Held() = %d, not %d", c.chunks, got, c.held)
		}
		l.Close()
		if got := l.Held(); got != 0 {
			t.Errorf("behind %q and Close Held() = %d", c.chunks, got)
		}
	}
}

// inTurns gives each lexer a chunk of its source, one after the other; and is what they tell.
func inTurns(sources []string, size int) []answer {
	lexers := make([]*lex.Lexer, len(sources))
	told := make([]answer, len(sources))
	more := 0
	for i, s := range sources {
		lexers[i] = lex.New()
		more = max(more, len(s))
	}
	for at := 0; at < more; at += size {
		for i, s := range sources {
			got := fed(lexers[i], s[min(at, len(s)):min(at+size, len(s))])
			told[i].tokens = append(told[i].tokens, got.tokens...)
		}
	}
	for i, l := range lexers {
		got := ended(l)
		told[i] = answer{append(told[i].tokens, got.tokens...), got.code, got.at, got.held}
	}
	return told
}

func TestR2LexersSideBySide(t *testing.T) {
	r := rand.New(rand.NewPCG(11, 6))
	for range 100 {
		sources := []string{
			samples.SomeSource(r.IntN, 50), samples.SomeSource(r.IntN, 50) + "?" + samples.SomeSource(r.IntN, 9),
			samples.SomeSource(r.IntN, 30) + "\"\n", "{" + samples.SomeSource(r.IntN, 3), "a" + strings.Repeat("\u65e5", r.IntN(90)),
		}
		for size := 1; size < 9; size++ {
			for i, got := range inTurns(sources, size) {
				l, code, at := scan.All(sources[i])
				if want := (answer{tokens: l, code: code, at: at}); !got.same(want) {
					t.Fatalf("%q, in turns: %s, not %s", sources[i], got, want)
				}
			}
		}
	}
}

func TestR2LexersInGoroutines(t *testing.T) {
	s := samples.SomeSource(rand.New(rand.NewPCG(11, 4)).IntN, 2000)
	want, code, at := scan.All(s)
	var wait sync.WaitGroup
	for size := 1; size <= 8; size++ {
		wait.Go(func() {
			if got := inTurns([]string{s}, size)[0]; !got.same(answer{tokens: want, code: code, at: at}) {
				t.Error("a lexer tells something else in a goroutine")
			}
		})
	}
	wait.Wait()
}

// What is told is the caller's own: nothing that is done to it is seen in another answer.
func TestR2WhatIsToldIsTheCallersOwn(t *testing.T) {
	s := "if abc := \"text\" + 'c' // line \n{block} 1234 ;"
	all, _, _ := scan.All(s)
	for size := 1; size <= len(s); size++ {
		l := lex.New()
		var kept []api.Tok
		take := func(got answer) {
			kept = append(kept, got.tokens...)
			for i := range got.tokens {
				got.tokens[i] = api.Tok{Kind: 99, Text: "other", Feeds: 7}
			}
			_ = append(got.tokens, api.Tok{Kind: 98})
		}
		for at := 0; at < len(s); at += size {
			take(fed(l, s[at:min(at+size, len(s))]))
		}
		take(ended(l))
		if !slices.Equal(kept, all) {
			t.Fatalf("in chunks of %d: %s, not %s", size, answer{tokens: kept}, answer{tokens: all})
		}
	}
}

// The texts are new memory, and no two of them, and no text and a chunk, share any.
func TestR2TextsAreNew(t *testing.T) {
	type span struct{ first, behind uintptr }
	of := func(s string) span {
		first := uintptr(unsafe.Pointer(unsafe.StringData(s)))
		return span{first, first + uintptr(len(s))}
	}
	chunks := []string{strings.Clone("if abc := \"te"), strings.Clone("xt\" + 'c' // line  "), strings.Clone("\n{block} 1234 ;"), strings.Clone("long"), strings.Clone("er // x")}
	l := lex.New()
	var spans []span
	met := 0
	for _, s := range chunks {
		spans = append(spans, of(s))
		for _, tok := range fed(l, s).tokens {
			spans = append(spans, of(tok.Text))
			met++
		}
	}
	for _, tok := range ended(l).tokens {
		spans = append(spans, of(tok.Text))
		met++
	}
	for i, a := range spans {
		for _, b := range spans[:i] {
			if a.first < b.behind && b.first < a.behind {
				t.Error("two texts share memory")
			}
		}
	}
	if met != 12 {
		t.Errorf("%d tokens", met)
	}
	runtime.KeepAlive(chunks)
}

// feedsGreat feeds a chunk that no one else has.
func feedsGreat(l *lex.Lexer, behind string) (weak.Pointer[byte], []api.Tok) {
	s := strings.Repeat("great ", 200) + behind
	told, _, _ := l.Feed(s)
	return weak.Make(unsafe.StringData(s)), told
}

// A chunk is not kept, be something of it held or not, told or not.
func TestR2NoChunkIsKept(t *testing.T) {
	for _, behind := range []string{"", "abc", "\"abc", "{", "// x", "\xc3", "a\xf0\x90", "?", "\"\n"} {
		l := lex.New()
		chunk, told := feedsGreat(l, behind)
		runtime.GC()
		if chunk.Value() != nil {
			t.Errorf("the chunk is kept, with %q at its end", behind)
		}
		if len(told) != 200 {
			t.Errorf("%d tokens", len(told))
		}
		runtime.KeepAlive(l)
		runtime.KeepAlive(told)
	}
}

// What was told is not kept by the lexer.
func TestR2NothingIsKeptThatWasTold(t *testing.T) {
	l := lex.New()
	text := func() weak.Pointer[byte] {
		told, _, _ := l.Feed("\"" + strings.Repeat("great", 200) + "\" x")
		return weak.Make(unsafe.StringData(told[0].Text))
	}()
	runtime.GC()
	if text.Value() != nil {
		t.Error("a token that was told is kept")
	}
	if got := ended(l); got.String() != `Name "x" 1003 1:1004 0` {
		t.Error(got)
	}
}
