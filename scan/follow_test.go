package scan_test

import (
	"math/rand/v2"
	"slices"
	"strings"
	"sync"
	"testing"
	"unsafe"

	"colophon/api"
	"colophon/place"
	"colophon/samples"
	"colophon/scan"
)

// follows holds what P10.2 says of a source: the tokens' texts with blanks and line ends between are the source, up to an
// error; ahead of each stand just its Feeds line ends; its place is place.Of of its At, and places rise.
func follows(t *testing.T, s string) {
	t.Helper()
	l, code, at := scan.All(s)
	end := 0
	for i, tok := range l {
		if tok.Place.At < end || !strings.HasPrefix(s[tok.Place.At:], tok.Text) || tok.Text == "" {
			t.Fatalf("All(%s): %s does not stand there", samples.Short(s), samples.TokWord(tok))
		}
		between(t, s, s[end:tok.Place.At], tok.Feeds)
		standsThere(t, s, tok.Place)
		if i > 0 && !rises(l[i-1].Place, tok.Place) {
			t.Fatalf("All(%s): %s is not behind %s", samples.Short(s), samples.TokWord(tok), samples.TokWord(l[i-1]))
		}
		end = tok.Place.At + len(tok.Text)
	}
	switch {
	case code == api.OK && at != api.Place{}:
		t.Fatalf("All(%s): no error, at %s", samples.Short(s), samples.PlaceWord(at))
	case code == api.OK:
		between(t, s, s[end:], strings.Count(s[end:], "\n"))
	case code == api.ErrScanText:
		standsThere(t, s, at)
	default:
		standsThere(t, s, at)
		between(t, s, s[end:at.At], strings.Count(s[end:at.At], "\n"))
	}
}

// between holds that blanks and so many line ends are all that stands there.
func between(t *testing.T, s, gap string, feeds int) {
	t.Helper()
	if strings.Trim(gap, " \t\r\n") != "" || strings.Count(gap, "\n") != feeds {
		t.Fatalf("All(%s): %s stands between tokens, Feeds are %d", samples.Short(s), samples.Short(gap), feeds)
	}
}

// standsThere holds a place against place.Of. Of a long source that is asked for places at its front alone, since each is
// counted from there on.
func standsThere(t *testing.T, s string, p api.Place) {
	t.Helper()
	if p.At > 1<<17 {
		return
	}
	if want, e := place.Of(s, p.At); e != api.OK || p != want {
		t.Fatalf("All(%s): the place %s is none, it is %s", samples.Short(s), samples.PlaceWord(p), samples.PlaceWord(want))
	}
}

func rises(a, b api.Place) bool {
	return a.At < b.At && (a.Line < b.Line || a.Line == b.Line && a.Column < b.Column)
}

// shortSources goes through all sources of at most so many parts, in several tests at once, one for each first part.
func shortSources(t *testing.T, parts []string, most int, look func(t *testing.T, s string)) {
	look(t, "")
	for _, first := range parts {
		t.Run("", func(t *testing.T) {
			t.Parallel()
			for s := range samples.Texts(parts, most-1) {
				look(t, first+s)
			}
		})
	}
}

func TestP10_1AllShortSourcesAsThePlainWay(t *testing.T) {
	shortSources(t, samples.SourceParts(), 4, asPlain)
}

func TestP10_1SomeLongerSourcesAsThePlainWay(t *testing.T) {
	shortSources(t, samples.FewParts(), 6, asPlain)
}

func TestP10_2AllShortSources(t *testing.T) { shortSources(t, samples.SourceParts(), 4, follows) }

func TestP10_2SomeLongerSources(t *testing.T) { shortSources(t, samples.FewParts(), 5, follows) }

// beginsSame holds P10.3 of a source and all its beginnings, which may be cut within a character.
func beginsSame(t *testing.T, s string) {
	t.Helper()
	l, code, _ := scan.All(s)
	if code != api.OK {
		return
	}
	for at := range len(s) {
		short, code, _ := scan.All(s[:at])
		if code != api.OK || len(short) == 0 {
			continue
		}
		n := len(short) - 1
		if len(l) < n || !slices.Equal(l[:n], short[:n]) {
			t.Fatalf("All(%s) tells %s, and of its first %d bytes %s", samples.Short(s), samples.AnswerWord(l, api.OK, api.Place{}), at, samples.AnswerWord(short, api.OK, api.Place{}))
		}
	}
}

func TestP10_3AllShortSources(t *testing.T) { shortSources(t, samples.SourceParts(), 4, beginsSame) }

func TestP10_3SomeLongerSources(t *testing.T) { shortSources(t, samples.FewParts(), 5, beginsSame) }

func TestP10_3TokensThatGoOn(t *testing.T) {
	for _, c := range []struct{ short, long, first, second string }{
		{"a", "ab", "Name a", "Name ab"},
		{"x en", "x end", "Name x; Name en", "Name x; Key end"},
		{"x end", "x ends", "Name x; Key end", "Name x; Name ends"},
		{"1", "12", "Number 1", "Number 12"},
		{"a:", "a:=", "Name a; Sign :", "Name a; Sign :="},
		{"a.", "a..", "Name a; Sign .", "Name a; Sign .."},
		{"a/", "a//", "Name a; Sign /", "Name a; Line //"},
		{"a//", "a// b ", "Name a; Line //", "Name a; Line // b"},
		{"a// \xc3", "a// \xc3\xa9", "Name a; Line // \xc3", "Name a; Line // \xc3\xa9"},
		{"{a}", "{a}}", "Block {a}", "Block {a}; ErrScanByte at 3 1:4"},
	} {
		hasKinds(t, c.short, c.first)
		hasKinds(t, c.long, c.second)
		beginsSame(t, c.long)
	}
}

func TestP10_1LongSourcesAsThePlainWay(t *testing.T) {
	r := rand.New(rand.NewPCG(10, 1))
	parts := samples.SourceParts()
	for range 300 {
		s := samples.SomeSource(r.IntN, 1+r.IntN(400))
		asPlain(t, s)
		follows(t, s)
		// With a part of it gone it has any error anywhere.
		at := r.IntN(len(s))
		asPlain(t, s[:at])
		asPlain(t, s[:at]+s[at+r.IntN(len(s)-at):])
		asPlain(t, s[:at]+parts[r.IntN(len(parts))]+s[at:])
	}
	for range 5 {
		asPlain(t, samples.SomeSource(r.IntN, 50000))
	}
}

func TestP10_3LongSources(t *testing.T) {
	r := rand.New(rand.NewPCG(10, 3))
	for range 100 {
		beginsSame(t, samples.SomeSource(r.IntN, 1+r.IntN(100)))
	}
}

func TestP10_1AnyBytes(t *testing.T) {
	r := rand.New(rand.NewPCG(10, 2))
	for range 50000 {
		b := make([]byte, r.IntN(12))
		for i := range b {
			b[i] = byte(r.IntN(256))
		}
		asPlain(t, string(b))
		asPlain(t, "{"+string(b)+"}\""+string(b)+"\"//"+string(b))
		follows(t, string(b))
	}
}

// A long source is gone through just once: a way that begins again at its front for each token would not end here.
func TestR1AGreatSource(t *testing.T) {
	const times = 1 << 18
	for _, part := range []string{"a ", "1;", "{\n}", "//\n", "\"\u00e9\"", "\n\nx"} {
		l, code, _ := scan.All(strings.Repeat(part, times))
		if code != api.OK || len(l) < times || len(l)%times != 0 {
			t.Fatalf("%d times %q: %d tokens, %s", times, part, len(l), samples.ErrorWord(code))
		}
	}
}

// Rule R2: what is told is the caller's own: nothing that is done to it is seen in another answer, or in the source.
func TestR2WhatIsToldIsTheCallersOwn(t *testing.T) {
	s := strings.Clone("if abc := \"text\" + 'c' // line\n{block} 1234 ?")
	l, code, at := scan.All(s)
	again, _, _ := scan.All(s)
	kept := slices.Clone(again)
	for i := range l {
		l[i] = api.Tok{Kind: 99, Text: "other"}
	}
	l = append(l[:0], l[1:]...)
	third, thirdCode, thirdAt := scan.All(s)
	if !slices.Equal(again, kept) || !slices.Equal(third, kept) || thirdCode != code || thirdAt != at {
		t.Errorf("behind writing into an answer others are %s and %s", samples.AnswerWord(again, 0, api.Place{}), samples.AnswerWord(third, thirdCode, thirdAt))
	}
	_ = append(again[:2], api.Tok{})
	if third[2] != kept[2] {
		t.Error("two answers share memory")
	}
}

// The texts are new memory: none keeps the source.
func TestR2TextsAreNew(t *testing.T) {
	s := strings.Clone("if abc := \"text\" + 'c' // line\n{block} 1234")
	first := uintptr(unsafe.Pointer(unsafe.StringData(s)))
	l, code, _ := scan.All(s)
	if code != api.OK || len(l) != 9 {
		t.Fatalf("All(%q) tells %s", s, samples.AnswerWord(l, code, api.Place{}))
	}
	for _, tok := range l {
		if at := uintptr(unsafe.Pointer(unsafe.StringData(tok.Text))); at >= first && at < first+uintptr(len(s)) {
			t.Errorf("%s is part of the source", samples.TokWord(tok))
		}
	}
}

func TestR2Goroutines(t *testing.T) {
	s := samples.SomeSource(rand.New(rand.NewPCG(10, 4)).IntN, 2000)
	want, code, at := plainAll(s)
	var wait sync.WaitGroup
	for range 8 {
		wait.Go(func() {
			l, e, p := scan.All(s)
			if !slices.Equal(l, want) || e != code || p != at {
				t.Error("All tells something else in a goroutine")
			}
		})
	}
	wait.Wait()
}
