package lex_test

import (
	"strings"
	"testing"

	"colophon/api"
	"colophon/lex"
	"colophon/samples"
)

const most = api.MaxTok

// long is a token of a size around the limit: how it begins and ends, what has to stand behind it to make it sure.
type long struct {
	kind               api.TokKind
	first, last, after string
}

var longs = []long{
	{api.TokName, "a", "", " "}, {api.TokName, "a", "b", ";"}, {api.TokName, "a", "\u00e9", "\n"}, {api.TokName, "\u65e5", "\U00010400", "\""},
	{api.TokNumber, "7", "", " "}, {api.TokNumber, "7", "", "a"}, {api.TokLine, "//", "", "\n"}, {api.TokLine, "//", "x", "\n"},
	{api.TokLine, "//", "\u65e5", "\n"}, {api.TokLine, "//", " \t\r ", "\n"}, {api.TokLine, "//", "\xff ", "\n"},
	{api.TokText, "\"", "\"", ""}, {api.TokText, "\"", "\u65e5\"", ""}, {api.TokText, "\"", "\xff\"", ""},
	{api.TokBlock, "{", "}", ""}, {api.TokBlock, "{\n", "\U00010400}", ""}, {api.TokBlock, "{", "\n}", ""},
}

// told is what has to be told of the token at a size.
func (k long) told(size int) answer {
	begin := api.Place{Line: 1, Column: 1}
	if size > most {
		return answer{code: api.ErrScanLong, at: begin}
	}
	text := samples.Filled(k.first, size, k.last)
	if k.kind == api.TokLine {
		text = strings.TrimRight(text, " \t\r")
	}
	return answer{tokens: []api.Tok{{Kind: k.kind, Text: text, Place: begin}}}
}

// sizes are those around the limit.
var sizes = []int{most - 1, most, most + 1, most + 2, most + 5}

// A token of a size around the limit, cut near its front and near its end: while it may go on it is held; the character that
// is too much is told at once, and where there is none, what makes it sure.
func TestP11_2LongTokensInChunks(t *testing.T) {
	for _, k := range longs {
		for _, size := range sizes {
			for _, n := range []int{1, 2, 3, 4, 30000, size - 6, size - 5, size - 4, size - 3, size - 2, size - 1} {
				if n <= most {
					k.cutBehind(t, n, size)
				}
			}
		}
	}
}

func (k long) cutBehind(t *testing.T, n, size int) {
	t.Helper()
	s := samples.Filled(k.first, size, k.last)
	want := k.told(size)
	l := lex.New()
	if got := fed(l, s[:n]); !got.same(answer{held: n}) {
		t.Fatalf("%s: the first %d bytes tell %s", samples.Short(s), n, got)
	}
	got := fed(l, s[n:])
	if k.after != "" && size <= most {
		if !got.same(answer{held: size}) {
			t.Fatalf("%s cut behind %d tells %s", samples.Short(s), n, got)
		}
		got = fed(l, k.after)
		got.held = 0 // of what stands behind it
	}
	if !got.same(want) {
		t.Fatalf("%s cut behind %d, and %q, tells %s, not %s", samples.Short(s), n, k.after, got, want)
	}
}

// The same in single bytes and in chunks of some sizes, with something ahead and behind, all together.
func TestP11_5LongTokensInChunks(t *testing.T) {
	for _, k := range longs {
		for _, size := range sizes {
			t.Run("", func(t *testing.T) {
				t.Parallel()
				s := "x\n " + samples.Filled(k.first, size, k.last)
				for _, chunk := range []int{1, 2, 3, 1000, 32768, 65535, 65536} {
					comesTogether(t, s, every(chunk, s)...)
					comesTogether(t, s+k.after, every(chunk, s)...)
					comesTogether(t, s+k.after+"y;", every(chunk, s)...)
				}
			})
		}
	}
}

// A token has no limit that another one's bytes, or blanks between, are counted to.
func TestP11_5LongTokensOneBehindTheOther(t *testing.T) {
	name := samples.Filled("a", most, "")
	for _, gap := range []string{" ", "\n", strings.Repeat(" \n", 40000)} {
		s := name + gap + name + gap + name
		for _, chunk := range []int{1, 1000, 65535, 65536, 65537} {
			comesTogether(t, s, every(chunk, s)...)
			comesTogether(t, s+"x", every(chunk, s)...)
		}
	}
}

// The beginning of a character behind a token of the greatest size is not too much till it is whole. So 65538 bytes are the
// most that is held.
func TestP11_4TheMostThatIsHeld(t *testing.T) {
	for _, first := range []string{"a", "7", "//", "\"", "{"} {
		for _, begun := range []string{"", "\xc3", "\xe6\x97", "\xf0\x90\x90"} {
			t.Run("", func(t *testing.T) {
				t.Parallel()
				for size := most - 3; size <= most; size++ {
					holdsAll(t, size, samples.Filled(first, size, "")+begun)
				}
			})
		}
	}
}

// holdsAll holds that all of a source is held, be its last bytes cut off or not, and what comes of it with something behind.
func holdsAll(t *testing.T, size int, s string) {
	t.Helper()
	l := lex.New()
	fed(l, s[:size])
	if got := fed(l, s[size:]); !got.same(answer{held: len(s)}) {
		t.Fatalf("%s in two tells %s", samples.Short(s), got)
	}
	if got := fed(lex.New(), s); !got.same(answer{held: len(s)}) {
		t.Fatalf("%s tells %s", samples.Short(s), got)
	}
	for _, rest := range []string{"", "\xa9", "\x97\xa5", "\x90\x90\x80", " ", "\n", "\"", "}", "x", "?"} {
		comesTogether(t, s+rest, len(s))
		comesTogether(t, s+rest, every(1, s)[size-10:]...)
	}
}

// Where a character is too much, and is no whole one yet, only what makes it whole, or Close, tells the error.
func TestP11_2TooMuchByABeginning(t *testing.T) {
	for _, first := range []string{"\"", "{", "//"} {
		full := samples.Filled(first, most, "")
		for _, c := range []string{"\u00e9", "\u65e5", "\U00010400"} {
			for n := 1; n < len(c); n++ {
				long := answer{code: api.ErrScanLong, at: api.Place{Line: 1, Column: 1}}
				l := lex.New()
				fed(l, full)
				if got := fed(l, c[:n]); !got.same(answer{held: most + n}) {
					t.Fatalf("%q and %x: %s", first, c[:n], got)
				}
				if got := fed(l, c[n:]); !got.same(long) {
					t.Fatalf("%q and %x: %s", first, c, got)
				}
				l = lex.New()
				fed(l, full+c[:n])
				if got := ended(l); !got.same(long) {
					t.Fatalf("%q and %x, closed: %s", first, c[:n], got)
				}
			}
		}
	}
}

// Where several errors come at one character: a line end in a text is ErrScanOpen, else ErrScanLong goes ahead of
// ErrScanText; and at Close nothing is too much.
func TestP11_2SeveralErrorsAtOneCharacter(t *testing.T) {
	for _, c := range []struct {
		size int
		next string
		code api.Errno
		at   int
	}{
		{most, "\n", api.ErrScanOpen, 0}, {most, "\x01", api.ErrScanLong, 0}, {most, "\t", api.ErrScanLong, 0}, {most, "\"", api.ErrScanLong, 0},
		{most, "\xff", api.ErrScanLong, 0}, {most, "\u65e5", api.ErrScanLong, 0}, {most - 1, "\x01", api.ErrScanText, most - 1},
		{most - 1, "\x7f", api.ErrScanText, most - 1}, {most - 1, "\n", api.ErrScanOpen, 0}, {most - 1, "\u00e9", api.ErrScanLong, 0},
		{most - 2, "\u65e5", api.ErrScanLong, 0}, {most - 3, "\U00010400", api.ErrScanLong, 0},
	} {
		s := samples.Filled("\"", c.size, "")
		want := answer{code: c.code, at: api.Place{At: c.at, Line: 1, Column: 1 + c.at}}
		l := lex.New()
		fed(l, s)
		if got := fed(l, c.next); !got.same(want) {
			t.Errorf("a text of %d bytes and %q: %s, not %s", c.size, c.next, got, want)
		}
		for n := c.size - 3; n < c.size+len(c.next); n++ {
			comesTogether(t, s+c.next, n)
		}
	}
	for _, first := range []string{"\"", "{"} {
		l := lex.New()
		fed(l, samples.Filled(first, most, ""))
		if got := ended(l); got.String() != "ErrScanOpen at 0 1:1" {
			t.Errorf("%q and 65534 bytes, closed: %s", first, got)
		}
	}
}

// The error is told where the token begins, however many chunks ago that was.
func TestP11_2WhereALongTokenBegins(t *testing.T) {
	l := lex.New()
	fed(l, "\u65e5\n x")
	for n := range 65534 {
		if got := fed(l, "y"); got.held != n+2 || got.code != api.OK {
			t.Fatalf("behind %d letters: %s", n+1, got)
		}
	}
	const want = "ErrScanLong at 5 2:2"
	if got := fed(l, "y").String(); got != want {
		t.Errorf("%s, not %s", got, want)
	}
	if got := ended(l).String(); got != want {
		t.Errorf("%s, not %s", got, want)
	}
}
