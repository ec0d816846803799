package samples

import "strings"

// SourceParts are what all short sources are made of: what each token begins with, goes on with and ends with, what parts
// them, characters of each size, bad bytes that make a good character together, and what begins nothing.
func SourceParts() []string {
	return []string{
		"i", "f", "\u00e9", "\u65e5", "\U00010400", "_", "\u0301", "7", "\"", "'", "/", "{", "}", ":", "=", ".", "<",
		" ", "\t", "\r", "\n", "\x01", "?", "\xff", "\xc3", "\xa9",
	}
}

// FewParts are those of which somewhat longer ones are made.
func FewParts() []string {
	return []string{"a", "7", "\"", "'", "/", "{", "}", " ", "\n", "\xc3", "\xa9"}
}

// SomeSource is a source without an error, of so many whole tokens and of what parts them; pick says which of n comes next.
func SomeSource(pick func(n int) int, size int) string {
	parts := []string{
		"a", "if ", "end\n", "x1", "\u00e9t\u00e9", "\u65e5\u672c ", "12", "7 ", "\"t\xff\u00e9\"", "\"\"", "'\u65e5'", "'\xff'",
		":=", "=", ":", "..", ".", "<", ">=", ";", "(", ")", "%", "{ a \n\n \" // { }", "{}", "// c \t\r\n", "//\n", "// \xc3\u00e9\n",
		" ", "\n", "\t", "\r\n", "\r", "\n\n\n",
	}
	var b strings.Builder
	for range size {
		b.WriteString(parts[pick(len(parts))])
	}
	return b.String()
}

// Filled is a text of so many bytes, ahead of which and at whose end something stands, and digits between.
func Filled(first string, bytes int, last string) string {
	return first + strings.Repeat("7", max(0, bytes-len(first)-len(last))) + last
}
