package scan_test

import (
	"slices"
	"strings"
	"testing"

	"colophon/api"
	"colophon/char"
	"colophon/class"
	"colophon/samples"
	"colophon/scan"
)

// The plain way: a token is cut off at the first place at which something ends it or may not stand in it, and that place is
// found by what stands there, not character by character.

// ending is what comes of a token that begins at a source's front: its kind and how many bytes it has; or an error, and how
// many bytes of the source stand ahead of it.
type ending struct {
	kind api.TokKind
	size int
	code api.Errno
	at   int
}

// limited is a token of such a size, if it may be so great.
func limited(kind api.TokKind, size int) ending {
	if size > api.MaxTok {
		return ending{code: api.ErrScanLong}
	}
	return ending{kind: kind, size: size}
}

// firstBut is where the first character of a text stands that is not of some points, or its end.
func firstBut(s string, of func(point int) bool) int {
	if at := strings.IndexFunc(s, func(r rune) bool { return !of(int(r)) }); at >= 0 {
		return at
	}
	return len(s)
}

func digit(point int) bool { return strings.Contains("0123456789", string(rune(point))) }

// control tells it of a byte: those above 7F stand in no control.
func control(b byte) bool { return b <= 0x1f || b == 0x7f }

func firstFeed(s string) int {
	line, _, _ := strings.Cut(s, "\n")
	return len(line)
}

func plainToken(s string) ending {
	point, _, good := char.Next(s, 0)
	switch {
	case good && class.Letter(point):
		end := limited(api.TokName, firstBut(s, class.Part))
		if end.code == api.OK && slices.Contains(class.Keys(), s[:end.size]) {
			end.kind = api.TokKey
		}
		return end
	case good && digit(point):
		return limited(api.TokNumber, firstBut(s, digit))
	case s[0] == '"':
		return plainText(s)
	case s[0] == '\'':
		return plainChar(s)
	case strings.HasPrefix(s, "//"):
		return limited(api.TokLine, firstFeed(s))
	case s[0] == '{':
		return plainBlock(s)
	}
	for size := 2; size > 0; size-- {
		if size <= len(s) && class.Sign(s[:size], 0) == s[:size] {
			return ending{kind: api.TokSign, size: size}
		}
	}
	return ending{code: api.ErrScanByte}
}

func plainBlock(s string) ending {
	if last := strings.IndexByte(s, '}'); last >= 0 {
		return limited(api.TokBlock, last+1)
	}
	if len(s) > api.MaxTok {
		return ending{code: api.ErrScanLong}
	}
	return ending{code: api.ErrScanOpen}
}

func plainText(s string) ending {
	stop := 1
	for stop < len(s) && s[stop] != '"' && !control(s[stop]) {
		stop++
	}
	switch {
	case stop > api.MaxTok:
		return ending{code: api.ErrScanLong}
	case stop == len(s) || s[stop] == '\n':
		return ending{code: api.ErrScanOpen}
	case stop == api.MaxTok:
		return ending{code: api.ErrScanLong}
	case s[stop] == '"':
		return ending{kind: api.TokText, size: stop + 1}
	}
	return ending{code: api.ErrScanText, at: stop}
}

func plainChar(s string) ending {
	line := s[:firstFeed(s)]
	places := append(char.Places(line), len(line), len(line))
	one, two := places[1], places[2]
	switch {
	case one == len(line):
		return ending{code: api.ErrScanOpen}
	case s[one] == '\'' || control(s[one]):
		return ending{code: api.ErrScanText, at: one}
	case two == len(line):
		return ending{code: api.ErrScanOpen}
	case s[two] != '\'':
		return ending{code: api.ErrScanText, at: two}
	}
	return ending{kind: api.TokChar, size: two + 1}
}

// placesIn is each character's place in a source, at the byte where it begins; and that of the source's end.
func placesIn(s string) []api.Place {
	places := make([]api.Place, len(s)+1)
	p := api.Place{Line: 1, Column: 1}
	for at, r := range s {
		p.At = at
		places[at] = p
		p.Column++
		if r == '\n' {
			p.Line, p.Column = p.Line+1, 1
		}
	}
	p.At = len(s)
	places[len(s)] = p
	return places
}

// plainAll is what All has to tell.
func plainAll(s string) ([]api.Tok, api.Errno, api.Place) {
	places := placesIn(s)
	var l []api.Tok
	last := 0
	for {
		at := last + firstBut(s[last:], func(point int) bool { return strings.ContainsRune(" \t\r\n", rune(point)) })
		if at == len(s) {
			return l, api.OK, api.Place{}
		}
		end := plainToken(s[at:])
		if end.code != api.OK {
			return l, end.code, places[at+end.at]
		}
		text := s[at : at+end.size]
		if end.kind == api.TokLine {
			text = strings.TrimRight(text, " \t\r")
		}
		l = append(l, api.Tok{Kind: end.kind, Text: text, Place: places[at], Feeds: strings.Count(s[last:at], "\n")})
		last = at + end.size
	}
}

// asPlain holds All against the plain way.
func asPlain(t *testing.T, s string) {
	t.Helper()
	l, code, at := scan.All(s)
	want, wantCode, wantAt := plainAll(s)
	if !slices.Equal(l, want) || code != wantCode || at != wantAt {
		t.Fatalf("All(%s) tells\n  %s, not\n  %s", samples.Short(s), samples.AnswerWord(l, code, at), samples.AnswerWord(want, wantCode, wantAt))
	}
}
