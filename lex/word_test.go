package lex_test

import (
	"fmt"
	"testing"

	"colophon/class"
	"colophon/lex"
)

// Words of the language, and names that begin as they do, cut within.
func TestP11_2WordsCutWithin(t *testing.T) {
	for _, key := range class.Keys() {
		all := fmt.Sprintf(" [%d]", len(key))
		for n := 1; n < len(key); n++ {
			begun := fmt.Sprintf(" [%d]", n)
			hasKinds(t, begun+" | "+all+" | Key "+key, key[:n], key[n:])
			hasKinds(t, begun+" | Key "+key+" | ", key[:n], key[n:]+" ")
			hasKinds(t, begun+" | "+all+" | Key "+key+" [1] | Sign ;", key[:n], key[n:], ";")
			hasKinds(t, begun+" | Name "+key+"s | ", key[:n], key[n:]+"s\n")
			hasKinds(t, begun+" | "+all+fmt.Sprintf(" |  [%d] | Name %s_", len(key)+1, key), key[:n], key[n:], "_")
			kind := "Name "
			if class.IsKey(key[:n]) {
				kind = "Key "
			}
			hasKinds(t, begun+" | "+kind+key[:n]+" | ", key[:n], " ")
			hasKinds(t, begun+" | "+kind+key[:n], key[:n])
		}
		courseOf(key+"1 "+key+"\n").bytewise(t, 1)
	}
	hasKinds(t, " [2] |  [3] |  [7] | Name endings", "en", "d", "ings")
	hasKinds(t, " [2] |  [3] | Key end | Name ing | ", "en", "d", " ", "ing ")
	hasKinds(t, " [2] |  [4] |  [7] | Key program", "pr", "og", "ram")
}

// Numbers go on, and names begin behind them.
func TestP11_2Numbers(t *testing.T) {
	hasKinds(t, " [1] |  [2] |  [3] | Number 123", "1", "2", "3")
	hasKinds(t, " [1] | Number 1 [1] |  [2] | Name a2", "1", "a", "2")
	hasKinds(t, " [2] | Number 12 [1] |  [2] | Sign ..", "12", ".", ".")
	hasKinds(t, " [1] | Number 1; ErrScanByte | ErrScanByte", "1", "_")
	hasKinds(t, " [2] | Number 1; ErrScanByte | ErrScanByte", "1\xcc", "\x81")
}

// A character of two, three or four bytes, cut at each of its bytes, wherever it may stand.
func TestP11_2CharactersCutWithin(t *testing.T) {
	for _, c := range []string{"\u00e9", "\u0301", "\u65e5", "\u0904", "\U00010400", "\U0002ffff"} {
		letter := class.Letter(int([]rune(c)[0]))
		for n := 1; n < len(c); n++ {
			a, b, size := c[:n], c[n:], len(c)
			hasKinds(t, fmt.Sprintf(" [%d] |  [%d] | Name x%s", 1+n, 1+size, c), "x"+a, b)
			hasKinds(t, fmt.Sprintf(" [%d] | Name x%sy | ", 1+n, c), "x"+a, b+"y ")
			hasKinds(t, fmt.Sprintf(" [%d] | Text \"%s\" | ", 1+n, c), "\""+a, b+"\"")
			hasKinds(t, fmt.Sprintf(" [%d] |  [%d] | Char '%s' | ", 1+n, 1+size, c), "'"+a, b, "'")
			hasKinds(t, fmt.Sprintf(" [%d] | ErrScanText | ErrScanText", 1+n), "'"+a, b+"x'")
			hasKinds(t, fmt.Sprintf(" [%d] | Block {%s} | ", 1+n, c), "{"+a, b+"}")
			hasKinds(t, fmt.Sprintf(" [%d] | Line //%s | ", 2+n, c), "//"+a, b+"\n")
			hasKinds(t, fmt.Sprintf(" [%d] |  [%d] | Line //%s", 2+n, 2+size, c), "//"+a, b)
			if letter {
				hasKinds(t, fmt.Sprintf(" [%d] |  [%d] | Name %s", n, size, c), a, b)
				hasKinds(t, fmt.Sprintf(" [%d] | Name %s | ", n, c), " "+a, b+"\n")
			} else {
				hasKinds(t, fmt.Sprintf(" [%d] | ErrScanByte | ErrScanByte", n), a, b)
			}
		}
		courseOf(c).allWays(t)
		courseOf("x" + c + c).allWays(t)
		courseOf("'" + c + "'").allWays(t)
	}
	// Columns count it once, however it was cut.
	plays(t, ` [2] |  [6] |  [9] | Name "é日𐐀" 0 1:1 0 [1] | Name "x" 10 1:5 0; ErrScanByte at 11 1:6 | ErrScanByte at 11 1:6`, "\u00e9", "\u65e5\xf0", "\x90\x90\x80", " x", "?")
	plays(t, ` [4] | Text "\"éé\"" 0 1:1 0 [1] | Name "a" 6 1:5 0 | `, "\"\xc3\xa9\xc3", "\xa9\"a", " ")
	plays(t, ` [2] | Block "{é}" 0 1:1 0 [1] | Name "a" 4 1:4 0 [2] | Sign ":=" 5 1:5 0`, "{\xc3", "\xa9}a", ":=")
}

// The beginning of a character that never becomes whole is bad bytes: behind the next byte, or at Close.
func TestP11_2CharactersThatNeverBecomeWhole(t *testing.T) {
	for _, c := range []string{"\u00e9", "\u65e5", "\U00010400"} {
		for n := 1; n < len(c); n++ {
			a := c[:n]
			for _, next := range []string{" ", "\n", "x", ";", "\xff", c} {
				hasKinds(t, fmt.Sprintf(" [%d] | ErrScanByte | ErrScanByte", n), a, next)
				hasKinds(t, fmt.Sprintf(" [%d] | Name x; ErrScanByte | ErrScanByte", 1+n), "x"+a, next)
			}
			hasKinds(t, fmt.Sprintf(" [%d] | ErrScanByte", n), a)
			hasKinds(t, fmt.Sprintf(" [%d] | Number 1; ErrScanByte", 1+n), "1"+a)
			hasKinds(t, fmt.Sprintf(" [%d] | Text \"%s\" | ", 1+n, a), "\""+a, "\"")
			hasKinds(t, fmt.Sprintf(" [%d] | ErrScanOpen", 1+n), "\""+a)
			hasKinds(t, fmt.Sprintf(" [%d] | ErrScanOpen | ErrScanOpen", 1+n), "\""+a, "\n")
			hasKinds(t, fmt.Sprintf(" [%d] | Block {%s} | ", 1+n, a), "{"+a, "}")
			hasKinds(t, fmt.Sprintf(" [%d] | ErrScanOpen", 1+n), "{"+a)
			hasKinds(t, fmt.Sprintf(" [%d] | Line //%s | ", 2+n, a), "//"+a, "\n")
			hasKinds(t, fmt.Sprintf(" [%d] | Line //%s", 2+n, a), "//"+a)
			hasKinds(t, fmt.Sprintf(" [%d] |  [%d] | Line //%s%s", 2+n, 2+n+len(c), a, c), "//"+a, c)
			if n == 1 {
				hasKinds(t, fmt.Sprintf(" [%d] | Char '%s' | ", 1+n, a), "'"+a, "'")
				hasKinds(t, fmt.Sprintf(" [%d] | ErrScanOpen", 1+n), "'"+a)
			} else { // two bad bytes are two characters
				hasKinds(t, fmt.Sprintf(" [%d] | ErrScanText | ErrScanText", 1+n), "'"+a, "'")
				hasKinds(t, fmt.Sprintf(" [%d] | ErrScanText", 1+n), "'"+a)
			}
		}
	}
	// Each bad byte is a column.
	plays(t, ` [4] | Text "\"\xf0\x90\x90\"" 0 1:1 0 [1] | Name "a" 5 1:6 0`, "\"\xf0\x90\x90", "\"a")
	plays(t, ` [3] | ErrScanText at 2 1:3`, "'\xe6\x97")
}

// A bad byte that nothing can make good is whole at once.
func TestP11_2BadBytes(t *testing.T) {
	for b := 0x80; b <= 0xff; b++ {
		s := string([]byte{byte(b)})
		if open := b >= 0xc2 && b <= 0xf4; open {
			hasKinds(t, " [1] | ErrScanByte", s)
			hasKinds(t, " [2] | Name a; ErrScanByte", "a"+s)
		} else {
			hasKinds(t, "ErrScanByte | ErrScanByte", s)
			hasKinds(t, "Name a; ErrScanByte | ErrScanByte", "a"+s)
			hasKinds(t, " [1] | Name a; ErrScanByte | ErrScanByte", "a", s)
			hasKinds(t, " [1] | Sign :; ErrScanByte | ErrScanByte", ":", s)
			hasKinds(t, " [2] | ErrScanText | ErrScanText", "'"+s, s)
		}
		hasKinds(t, fmt.Sprintf(" [1] |  [2] | Text \"%s\" | ", s), "\"", s, "\"")
		hasKinds(t, fmt.Sprintf(" [1] |  [2] | Char '%s' | ", s), "'", s, "'")
		hasKinds(t, fmt.Sprintf(" [1] |  [2] | Block {%s} | ", s), "{", s, "}")
		hasKinds(t, fmt.Sprintf(" [2] |  [3] | Line //%s | ", s), "//", s, "\n")
	}
	for _, s := range []string{"\xed\xa0", "\xe0\x80", "\xf0\x80", "\xf4\x90", "\xc0", "\xc1", "\xf5"} {
		hasKinds(t, "ErrScanByte | ErrScanByte", s)
		hasKinds(t, "Name x; ErrScanByte | ErrScanByte", "x"+s)
		courseOf("{" + s + "}x" + s).allWays(t)
	}
}

// The blanks at a line comment's end, and its line end, come later.
func TestP11_2LineCommentsThatEndLater(t *testing.T) {
	hasKinds(t, " [4] |  [5] |  [6] |  [7] | Line // b | ", "// b", " ", "\t", "\r", "\n")
	hasKinds(t, " [4] |  [6] |  [7] | Line // b  c | ", "// b", "  ", "c", "\n")
	hasKinds(t, " [4] |  [7] | Line // b", "// b", " \t\r")
	hasKinds(t, " [2] |  [3] |  [4] | Line //", "//", " ", " ")
	hasKinds(t, " [5] |  [6] | Line // b | ", "// b ", "\r", "\n")
	hasKinds(t, " [5] |  [6] |  [7] | Line // b \u00e9", "// b ", "\xc3", "\xa9")
	hasKinds(t, " [5] |  [6] | Line // b \xc3 | ", "// b ", "\xc3", " \n")
	plays(t, ` [4] |  [6] | Line "// b" 0 1:1 0 | Name "x" 8 3:1 2 | `, "// b", " \r", "\n\n", "x ")
	plays(t, ` [2] | Line "//" 0 1:1 0 [3] | Line "//y" 3 2:1 1`, "//", "\n//y")
}

// Texts, chars and blocks that are open at a chunk's end, and at Close.
func TestP11_2TokensThatAreOpen(t *testing.T) {
	for _, c := range []struct{ first, rest, told string }{
		{"\"", "\"", "Text \"\""}, {"\"a", "b\"", "Text \"ab\""}, {"\"a ", "// { ' \"", "Text \"a // { ' \""}, {"\"'", "\"", "Text \"'\""},
		{"'", "a'", "Char 'a'"}, {"'a", "'", "Char 'a'"}, {"'", "\"'", "Char '\"'"}, {"'\u65e5", "'", "Char '\u65e5'"},
		{"{", "}", "Block {}"}, {"{a\n", "\n}", "Block {a\n\n}"}, {"{ \"", "' // {}", "Block { \"' // {}"}, {"{{", "}", "Block {{}"},
	} {
		size := fmt.Sprintf(" [%d]", len(c.first))
		hasKinds(t, size+" | "+c.told+" | ", c.first, c.rest)
		hasKinds(t, size+" | "+size+" | "+c.told+" |  | ", c.first, "", c.rest, "")
		hasKinds(t, size+" | ErrScanOpen", c.first)
		hasKinds(t, "Name x"+size+" | "+c.told+" [1] | Name y", "x"+c.first, c.rest+"y")
		plays(t, fmt.Sprintf(`Name "x" 0 1:1 0%s | ErrScanOpen at 3 2:2`, size), "x\n "+c.first)
		courseOf(c.first + c.rest).allWays(t)
	}
}

// The Feeds and the places of tokens that stand in several chunks, and with line ends between chunks.
func TestP11_2FeedsAndPlaces(t *testing.T) {
	plays(t, ` |  |  [1] | Name "ab" 3 3:2 2 | Name "c" 8 6:1 3 [1] | Sign ";" 9 6:2 0`, "\n", "\n ", "a", "b\n\n", "\nc;")
	plays(t, ` [2] |  [3] | Block "{\n\n}" 0 1:1 0 |  [1] | Name "x" 5 4:1 1`, "{\n", "\n", "}", "\nx")
	plays(t, ` [3] | Block "{\né\n}" 0 1:1 0 [1] | Name "y" 6 3:2 0 | `, "{\n\xc3", "\xa9\n}y", " ")
	plays(t, ` [2] | Line "//" 0 1:1 0 |  | Name "x" 5 3:2 2 | `, "//", "\n", "\n", " x\n")
	plays(t, `Name "a" 0 1:1 0 |  | Name "b" 4 3:1 2 [1] | Name "c" 7 4:2 1 | `, "a\n", "\r\n", "b\n c", " ")
	// The beginning of a character stands behind the line ends that were counted.
	plays(t, ` [1] | Name "é" 2 3:1 2 | `, "\n\n\xc3", "\xa9 ")
	plays(t, ` [1] | ErrScanByte at 2 2:2 | ErrScanByte at 2 2:2`, "\n \xc3", "\n")
}

// Places and line ends are counted over many chunks.
func TestP11_2PlacesOverManyChunks(t *testing.T) {
	l := lex.New()
	for n := range 1000 {
		if got := fed(l, "\n \u65e5"); n > 0 && got.String() != fmt.Sprintf(`Name "日" %d %d:2 1 [3]`, 5*n-3, n+1) {
			t.Fatalf("behind %d chunks: %s", n, got)
		}
	}
	if got := ended(l); got.String() != `Name "日" 4997 1001:2 1` {
		t.Error(got)
	}
}
