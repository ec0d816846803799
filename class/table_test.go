package class_test

import (
	"iter"
	"slices"
	"strings"
	"testing"

	"colophon/char"
	"colophon/samples"
)

// The document's words, as they stand there, so that the package's tables are held against them and not against a copy
// of themselves.
const (
	letterSpans = "41 to 5A, 61 to 7A, C0 to D6, D8 to F6, F8 to 24F, 391 to 3A1, 3A3 to 3CE, 400 to 45F, 5D0 to 5EA, 620 to 64A, 904 to 939, 3041 to 3096, 30A1 to 30FA, 4E00 to 9FFF, AC00 to D7A3, 10400 to 1044F, 20000 to 2FFFF"
	otherSpans  = "30 to 39, 5F, or 300 to 36F"
	keyWords    = "`and` `array` `begin` `const` `do` `elif` `else` `end` `for` `if` `not` `of` `or` `proc` `program` `record` `repeat` `return` `skip` `then` `to` `until` `var` `while`"
	signWords   = "`:=` `..` `<=` `>=` `;` `.` `,` `:` `=` `#` `<` `>` `(` `)` `[` `]` `+` `-` `*` `/` `%`"
)

// quoted are the texts that stand in the document's quotes.
func quoted(words string) []string {
	return strings.Fields(strings.ReplaceAll(words, "`", ""))
}

func keys() []string  { return quoted(keyWords) }
func signs() []string { return quoted(signWords) }

// oracle knows, by the document's words, the letters, the parts and the words of the language.
type oracle struct{ letters, parts map[int]bool }

func newOracle(t testing.TB) oracle {
	t.Helper()
	o := oracle{map[int]bool{}, map[int]bool{}}
	for _, n := range pointsOf(t, letterSpans) {
		o.letters[n], o.parts[n] = true, true
	}
	for _, n := range pointsOf(t, otherSpans) {
		o.parts[n] = true
	}
	return o
}

func pointsOf(t testing.TB, words string) []int {
	t.Helper()
	l, err := samples.Points(words)
	if err != nil {
		t.Fatal(err)
	}
	return l
}

// isName takes a text apart by package char.
func (o oracle) isName(s string) bool {
	if s == "" || slices.Contains(keys(), s) {
		return false
	}
	for at := 0; at < len(s); {
		point, size, good := char.Next(s, at)
		if !good || !o.parts[point] || at == 0 && !o.letters[point] {
			return false
		}
		at += size
	}
	return true
}

// signAt tries every text that begins there, the longest first.
func signAt(s string, at int) string {
	if at < 0 {
		return ""
	}
	for end := len(s); end > at; end-- {
		if slices.Contains(signs(), s[at:end]) {
			return s[at:end]
		}
	}
	return ""
}

// nameParts are what the texts are made of at which IsName and IsKey are held against the oracle: letters that make
// words, letters of every size, parts that are none, good characters that are no part, bad ones and beginnings of good.
var nameParts = []string{
	"d", "e", "f", "i", "n", "o", "E", "\u00e9", "\u4e00", "\U00010400",
	"1", "_", "\u0301", " ", "-", "\u00d7", "\ufffd", "\xff", "\xc3", "\xe4\xb8", "\x80",
}

// signParts are those at which Sign is: what signs are made of, and what is none.
var signParts = []string{
	":", "=", ".", "<", ">", ";", ",", "#", "(", ")", "[", "]", "+", "-", "*", "/", "%",
	"a", "_", "{", "\"", "!", "\n", "\u00d7", "\xff",
}

func nameTexts(most int) iter.Seq[string] { return samples.Texts(nameParts, most) }
func signTexts(most int) iter.Seq[string] { return samples.Texts(signParts, most) }
