package lex_test

import (
	"math/rand/v2"
	"slices"
	"strings"
	"testing"

	"colophon/api"
	"colophon/lex"
	"colophon/samples"
	"colophon/scan"
)

// everything has every kind of token and what may part them, characters of each size and bad bytes.
const everything = "program p; // q \t\r\n{b\n\xff}x1:=..<=12 'é'\"日\xff\"\n\n𐐀é/ // \xc3\n'\xc3'{}\r\n;end."

// wrongs are one of each error, and what may make one at the end of the source alone.
var wrongs = []string{
	"?", "}", "\xff", "\x01", "\u0301", "\ufffd", "\xe6\x97", "\"a\n", "'\n", "'a\n", "\"a\t\"", "''", "'ab'", "'\xe6\x97'", "\"", "\"a", "'", "'a", "{", "{ \n", "\xc3", "\xf0\x90\x90",
}

func TestP11_5EverythingCut(t *testing.T) {
	c := courseOf(everything)
	if c.closed.code != api.OK || len(c.closed.tokens) < 20 {
		t.Fatalf("it is %s", c.closed)
	}
	met := map[api.TokKind]int{}
	for _, tok := range c.closed.tokens {
		met[tok.Kind]++
	}
	if len(met) != 8 {
		t.Fatalf("it has only %d kinds", len(met))
	}
	c.cut(t)
	c.inThree(t)
	c.bytewise(t, 0)
	c.bytewise(t, 2)
}

func TestP11_5EverythingWithAnErrorCut(t *testing.T) {
	met := map[api.Errno]int{}
	for _, wrong := range wrongs {
		for at := 0; at <= len(everything); at += 3 {
			c := courseOf(everything[:at] + wrong + everything[at:])
			met[c.closed.code]++
			c.inTwo(t)
			c.bytewise(t, 1)
		}
		for _, ahead := range []string{"", "a", "12", ":", "/", "//\n", "if "} {
			c := courseOf(ahead + wrong)
			met[c.closed.code]++
			c.allWays(t)
		}
	}
	for _, code := range []api.Errno{api.OK, api.ErrScanByte, api.ErrScanOpen, api.ErrScanText} {
		if met[code] < 50 {
			t.Errorf("%s only %d times", samples.ErrorWord(code), met[code])
		}
	}
}

// shortSources goes through all sources of at most so many parts, in several tests at once, one for each first part.
func shortSources(t *testing.T, parts []string, most int, look func(t *testing.T, c *course)) {
	look(t, courseOf(""))
	for _, first := range parts {
		t.Run("", func(t *testing.T) {
			t.Parallel()
			for s := range samples.Texts(parts, most-1) {
				look(t, courseOf(first+s))
			}
		})
	}
}

func TestP11_5AllShortSourcesCutInAllWays(t *testing.T) {
	shortSources(t, samples.SourceParts(), 3, func(t *testing.T, c *course) { c.allWays(t) })
}

func TestP11_5SomeLongerSourcesCutInAllWays(t *testing.T) {
	shortSources(t, samples.FewParts(), 5, func(t *testing.T, c *course) { c.allWays(t) })
}

func TestP11_5SomeLongerSourcesCutInTwo(t *testing.T) {
	shortSources(t, samples.SourceParts(), 4, func(t *testing.T, c *course) {
		c.inTwo(t)
		c.bytewise(t, 0)
	})
}

// someCuts are places at which a source is cut, rising; some come twice.
func someCuts(r *rand.Rand, size int) []int {
	var l []int
	for range r.IntN(1 + size) {
		l = append(l, r.IntN(size+1))
	}
	slices.Sort(l)
	return l
}

func TestP11_5SomeSourcesCutInSomeWays(t *testing.T) {
	r := rand.New(rand.NewPCG(11, 5))
	parts := samples.SourceParts()
	for range 300 {
		s := samples.SomeSource(r.IntN, 1+r.IntN(100))
		// With a part of it gone, or one more, it may have any error anywhere.
		at := r.IntN(len(s))
		for _, s := range []string{s, s[:at], s[:at] + s[at+r.IntN(len(s)-at):], s[:at] + parts[r.IntN(len(parts))] + s[at:]} {
			c := courseOf(s)
			c.bytewise(t, 0)
			for range 10 {
				c.cut(t, someCuts(r, len(s))...)
			}
		}
	}
}

func TestP11_5AnyBytes(t *testing.T) {
	r := rand.New(rand.NewPCG(11, 2))
	for range 20000 {
		b := make([]byte, r.IntN(9))
		for i := range b {
			b[i] = byte(r.IntN(256))
		}
		for _, s := range []string{string(b), "{" + string(b) + "}\"" + string(b) + "\"//" + string(b)} {
			c := courseOf(s)
			c.bytewise(t, 0)
			c.cut(t, someCuts(r, len(s))...)
		}
	}
}

// comesTogether holds that all that is told of chunks, together, is what scan.All tells; and that it is never more held than
// may be. It is for long sources.
func comesTogether(t *testing.T, s string, behind ...int) {
	t.Helper()
	l := lex.New()
	var all answer
	last := 0
	take := func(got answer) {
		all.tokens = append(all.tokens, got.tokens...)
		if got.held > 65540 {
			t.Fatalf("%s: %d bytes are held", samples.Short(s), got.held)
		}
		all.code, all.at = got.code, got.at
	}
	for _, n := range append(behind, len(s)) {
		take(fed(l, s[last:n]))
		last = n
	}
	take(ended(l))
	tokens, code, at := scan.All(s)
	if want := (answer{tokens: tokens, code: code, at: at}); !all.same(want) {
		t.Fatalf("%s in %d chunks tells\n  %s, not\n  %s", samples.Short(s), len(behind)+1, all, want)
	}
}

// every are the places at which a source is cut into chunks of a size.
func every(size int, s string) []int {
	var l []int
	for n := size; n < len(s); n += size {
		l = append(l, n)
	}
	return l
}

func TestP11_5LongSources(t *testing.T) {
	r := rand.New(rand.NewPCG(11, 3))
	for range 3 {
		s := samples.SomeSource(r.IntN, 50000)
		for _, size := range []int{1, 2, 3, 7, 64, 4096, 65536, len(s)} {
			comesTogether(t, s, every(size, s)...)
			comesTogether(t, s+"'\xc3", every(size, s)...)
			comesTogether(t, s[:len(s)/2]+"\"\n"+s[len(s)/2:], every(size, s)...)
		}
	}
}

// A long source is gone through just once, however it comes.
func TestR1AGreatSource(t *testing.T) {
	for _, part := range []string{"a ", "1;", "{\n}", "//\n", "\"\u00e9\"", "\n\nx"} {
		s := strings.Repeat(part, 1<<17)
		comesTogether(t, s)
		comesTogether(t, s, every(1, s)...)
	}
}

// So is a long token: a way that begins again at its front for each chunk would take hours here.
func TestR1GreatTokensByteByByte(t *testing.T) {
	for _, c := range []struct{ first, last string }{{"a", " "}, {"7", ";"}, {"\"", "\""}, {"{", "}"}, {"//", "\n"}} {
		s := strings.Repeat(samples.Filled(c.first, 65534, "")+c.last, 20)
		behind := every(1, s)
		comesTogether(t, s, behind...)
		comesTogether(t, s, slices.Concat(behind[:60000], slices.Repeat([]int{60001}, 1<<20))...)
	}
}
