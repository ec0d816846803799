package samples_test

import (
	"strings"
	"testing"

	"colophon/api"
	"colophon/samples"
	"colophon/scan"
)

func TestAnswerWord(t *testing.T) {
	l := []api.Tok{{Kind: api.TokName, Text: "a\xff", Place: api.Place{At: 1, Line: 2, Column: 3}, Feeds: 4}, {Kind: 99}}
	if s := samples.AnswerWord(l, api.OK, api.Place{}); s != `Name "a\xff" 1 2:3 4; kind 99 "" 0 0:0 0` {
		t.Error(s)
	}
	if s := samples.AnswerWord(nil, api.ErrDone, api.Place{}); s != "ErrDone at 0 0:0" {
		t.Error(s)
	}
	if s := samples.AnswerWord(nil, api.OK, api.Place{At: 5, Line: 6, Column: 7}); s != "OK at 5 6:7" {
		t.Error(s)
	}
	if s := samples.AnswerWord(make([]api.Tok, 41), 7, api.Place{}); !strings.HasSuffix(s, "; .. (41 tokens); error 7 at 0 0:0") {
		t.Error(s)
	}
}

// No two kinds, and no two errors, have one word.
func TestKindWordAndErrorWord(t *testing.T) {
	met := map[string]int{}
	for k := range 10 {
		met[samples.KindWord(api.TokKind(k))]++
	}
	for e := range 200 {
		met[samples.ErrorWord(api.Errno(e))]++
	}
	if len(met) != 210 {
		t.Errorf("%d words", len(met))
	}
}

func TestSomeSource(t *testing.T) {
	next := 0
	pick := func(n int) int { next++; return next * 7 % n }
	for size := range 100 {
		s := samples.SomeSource(pick, size)
		if l, e, _ := scan.All(s); e != api.OK || len(l) > 2*size || len(s) < size {
			t.Fatalf("of %d: %s", size, samples.Short(s))
		}
	}
}

func TestFilled(t *testing.T) {
	if s := samples.Filled("ab", 5, "c"); s != "ab77c" {
		t.Error(s)
	}
	if s := samples.Filled("ab", 2, "c"); s != "abc" {
		t.Error(s)
	}
}
