package parse_test

import (
	"testing"

	"colophon/api"
	"colophon/parse"
	"colophon/samples"
)

func TestP12_1New(t *testing.T) {
	p := parse.New()
	if p == nil || p.Depth() != 0 {
		t.Fatal("no new parser")
	}
	if got := closed(p).String(); got != "ErrParseEnd [0]" {
		t.Error(got)
	}
	isOver(t, p)
	if parse.New() == parse.New() {
		t.Error("a parser twice")
	}
}

// The first token is wrong: nothing is open, and nothing was told.
func TestP12_2TheFirstOneIsWrong(t *testing.T) {
	for _, tok := range []api.Tok{{}, {Kind: api.TokName, Text: "program"}, {Kind: api.TokKey, Text: "begin"}, {Kind: api.TokSign, Text: "."}, {Kind: 77}} {
		p := parse.New()
		if got, want := put(p, tok), (answer{code: api.ErrParseTok}); !got.same(want) {
			t.Errorf("%s, not %s", got, want)
		}
		isStuck(t, p, api.ErrParseTok, 0)
	}
}

// Behind an error of Put each call tells it again, whatever comes: at each depth that a program has.
func TestP12_2BehindAnError(t *testing.T) {
	l := tokens("program p;var a:array[1..2]of record b:t end;proc f(a:t):u;begin return end;begin if a then b[1].c(d):=-e else begin skip end end end.")
	for i := range len(l) + 1 {
		p := behind(t, l[:i])
		depth := p.Depth()
		if got, want := put(p, api.Tok{Kind: api.TokKey, Text: "?"}), (answer{code: api.ErrParseTok, depth: depth}); !got.same(want) {
			t.Fatalf("behind %s: %s, not %s", texts(l[:i]), got, want)
		}
		if i < len(l) {
			if got, want := put(p, l[i]), (answer{code: api.ErrParseTok, depth: depth}); !got.same(want) {
				t.Fatalf("behind %s and an error: %s, not %s", texts(l[:i]), got, want)
			}
		}
		isStuck(t, p, api.ErrParseTok, depth)
	}
}

// Close closes, be the tokens a program or not; it tells ErrDone then, and no more the error of the end.
func TestP12_3CloseCloses(t *testing.T) {
	l := tokens("program p;begin a:=b end.")
	for i := range len(l) + 1 {
		p := behind(t, l[:i])
		got, want := closed(p), answer{code: api.ErrParseEnd}
		if i == len(l) {
			want = answer{events: []api.Event{{Kind: api.Close, Node: api.Program}}}
		}
		if !got.same(want) {
			t.Errorf("behind %s: %s, not %s", texts(l[:i]), got, want)
		}
		isOver(t, p)
	}
}

// Depth changes nothing, however often it is asked.
func TestP12_4AskingChangesNothing(t *testing.T) {
	for _, source := range append(samples.Programs(), "program p;;", "") {
		p := parse.New()
		q := parse.New()
		for _, tok := range tokens(source) {
			want := put(p, tok)
			got := put(q, tok)
			for range 3 {
				if q.Depth() != want.depth {
					t.Fatalf("%s: %d, not %d", source, q.Depth(), want.depth)
				}
			}
			if !got.same(want) {
				t.Fatalf("%s: %s, not %s", source, got, want)
			}
		}
		if got, want := closed(q), closed(p); !got.same(want) || q.Depth() != 0 {
			t.Errorf("%s: %s, not %s", source, got, want)
		}
	}
}

func TestR2NilParser(t *testing.T) {
	var p *parse.Parser
	want := answer{code: api.ErrNil}
	for range 2 {
		for _, tok := range []api.Tok{{}, {Kind: api.TokKey, Text: "program"}, {Kind: api.TokLine, Text: "//"}} {
			if got := put(p, tok); !got.same(want) {
				t.Errorf("Put: %s", got)
			}
		}
		if got := closed(p); !got.same(want) {
			t.Errorf("Close: %s", got)
		}
	}
}
