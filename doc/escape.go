package doc

import "strings"

const digits = "0123456789abcdef"

// How many bytes a byte is told by is also how it is told.
const (
	asItIs  = 1
	doubled = 2 // \\
	byCode  = 4 // \x and two digits
)

// forms are the ways in which all bytes are told, by spans of them in their order.
var forms = [...]struct{ last, form byte }{
	{0x1f, byCode},
	{'\\' - 1, asItIs},
	{'\\', doubled},
	{0x7e, asItIs},
	{0xff, byCode},
}

func formOf(c byte) byte {
	i := 0
	for forms[i].last < c {
		i++
	}
	return forms[i].form
}

// appendEscaped adds a text's bytes, escaped.
func appendEscaped(b []byte, t string) []byte {
	for i := range len(t) {
		c := t[i]
		switch formOf(c) {
		case asItIs:
			b = append(b, c)
		case doubled:
			b = append(b, '\\', c)
		case byCode:
			b = append(b, '\\', 'x', digits[c>>4], digits[c&15])
		}
	}
	return b
}

// unescaped is the text that is told by s; false: none is.
func unescaped(s string) (string, bool) {
	b := make([]byte, 0, len(s))
	for s != "" {
		c, form := firstByte(s)
		if form != formOf(c) {
			return "", false
		}
		b = append(b, c)
		s = s[form:]
	}
	return string(b), true
}

// firstByte is the byte that is told at the beginning of s, and in which form; the form is 0, if none is told there.
func firstByte(s string) (c, form byte) {
	if s[0] != '\\' {
		return s[0], asItIs
	}
	if strings.HasPrefix(s, `\\`) {
		return '\\', doubled
	}
	if len(s) < byCode || s[1] != 'x' {
		return 0, 0
	}
	high, low := strings.IndexByte(digits, s[2]), strings.IndexByte(digits, s[3])
	if high < 0 || low < 0 {
		return 0, 0
	}
	return byte(high<<4 | low), byCode
}
