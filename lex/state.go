package lex

import (
	"strings"

	"colophon/api"
	"colophon/char"
	"colophon/class"
	"colophon/place"
)

// state says what is under way ahead of the next character.
type state int

const (
	betweenTokens state = iota
	inName              // or in a word of the language
	inNumber
	inSign
	inLine
	inBlock
	inText
	inChar     // ahead of its one character
	behindChar // ahead of what has to be its last byte
)

const (
	end    rune = -1 // what is read where the source ends
	feed   rune = '\n'
	blanks      = " \t\r"
)

// read goes through characters, up to an error.
func (l *Lexer) read(s string) api.Errno {
	for at := 0; at < len(s); {
		point, size, _ := char.Next(s, at)
		if code := l.step(rune(point), s[at:at+size]); code != api.OK {
			return code
		}
		at += size
	}
	return api.OK
}

// step reads a character, or the source's end, in the state that those ahead of it left. Good or bad tells nothing here: a
// bad byte's point begins no token, goes on with no name and is no control, and the same holds of the good character of
// that point.
func (l *Lexer) step(point rune, bytes string) api.Errno {
	switch l.state {
	case betweenTokens:
		goto between
	case inName:
		goto name
	case inNumber:
		goto number
	case inSign:
		goto sign
	case inLine:
		goto line
	}
	return l.inside(point, bytes)
name:
	if class.Part(int(point)) {
		return l.add(bytes)
	}
	l.tell(l.wordKind())
	goto between
number:
	if isDigit(point) {
		return l.add(bytes)
	}
	l.tell(api.TokNumber)
	goto between
sign:
	if l.becomesLine(bytes) {
		l.state = inLine
		return l.add(bytes)
	}
	if l.becomesSign(bytes) {
		return l.add(bytes)
	}
	l.tell(api.TokSign)
	goto between
line:
	if !endsLine(point) {
		return l.add(bytes)
	}
	l.tell(api.TokLine)
between:
	switch {
	case point == end:
		return api.OK
	case point == feed || isBlank(point):
		return l.pass(point, bytes)
	}
	l.state = beginning(point)
	if l.state == betweenTokens {
		return api.ErrScanByte
	}
	return l.add(bytes)
}

// inside reads a character in a token that has a last byte of its own, and so ends with it, and not behind it.
func (l *Lexer) inside(point rune, bytes string) api.Errno {
	switch l.state {
	case inBlock:
		goto block
	case inChar:
		goto char
	case behindChar:
		goto quote
	}
	switch { // in a text
	case endsLine(point):
		return api.ErrScanOpen
	case l.isFull(bytes):
		return api.ErrScanLong
	case isControl(point):
		return api.ErrScanText
	case point == '"':
		return l.addLast(bytes, api.TokText)
	}
	return l.add(bytes)
block:
	switch point {
	case end:
		return api.ErrScanOpen
	case '}':
		return l.addLast(bytes, api.TokBlock)
	}
	return l.add(bytes)
char:
	switch {
	case endsLine(point):
		return api.ErrScanOpen
	case isControl(point) || point == '\'':
		return api.ErrScanText
	}
	l.state = behindChar
	return l.add(bytes)
quote:
	switch {
	case endsLine(point):
		return api.ErrScanOpen
	case point != '\'':
		return api.ErrScanText
	}
	return l.addLast(bytes, api.TokChar)
}

// beginning is the state behind a token's first character; betweenTokens: no token begins with it.
func beginning(point rune) state {
	switch {
	case class.Letter(int(point)):
		return inName
	case isDigit(point):
		return inNumber
	case point == '"':
		return inText
	case point == '\'':
		return inChar
	case point == '{':
		return inBlock
	case class.Sign(string(point), 0) != "":
		return inSign
	}
	return betweenTokens
}

// becomesLine tells whether what seemed a sign begins a line comment, as a character stands behind it.
func (l *Lexer) becomesLine(bytes string) bool { return string(l.token)+bytes == "//" }

// becomesSign tells whether a character makes a longer sign of the one that is under way. The end makes none.
func (l *Lexer) becomesSign(bytes string) bool {
	return len(class.Sign(string(l.token)+bytes, 0)) > len(l.token)
}

// pass goes behind a character that stands between tokens.
func (l *Lexer) pass(point rune, bytes string) api.Errno {
	if point == feed {
		l.feeds++
	}
	l.begin = place.Advance(l.begin, bytes)
	return api.OK
}

// isFull tells whether the token can't have a character, too.
func (l *Lexer) isFull(bytes string) bool { return len(l.token)+len(bytes) > api.MaxTok }

// add takes a character into the token.
func (l *Lexer) add(bytes string) api.Errno {
	if l.isFull(bytes) {
		return api.ErrScanLong
	}
	l.token = append(l.token, bytes...)
	return api.OK
}

// addLast takes the one into it that ends it.
func (l *Lexer) addLast(bytes string, kind api.TokKind) api.Errno {
	code := l.add(bytes)
	if code == api.OK {
		l.tell(kind)
	}
	return code
}

// tell ends the token: it is sure.
func (l *Lexer) tell(kind api.TokKind) {
	text := string(l.token)
	behind := place.Advance(l.begin, text)
	if kind == api.TokLine {
		text = strings.Clone(strings.TrimRight(text, blanks)) // not to keep the blanks with it
	}
	l.sure = append(l.sure, api.Tok{Kind: kind, Text: text, Place: l.begin, Feeds: l.feeds})
	l.state, l.begin, l.feeds, l.token = betweenTokens, behind, 0, nil
}

// wordKind tells a word of the language from a name.
func (l *Lexer) wordKind() api.TokKind {
	if class.IsKey(string(l.token)) {
		return api.TokKey
	}
	return api.TokName
}

// faultAt is where an error is: at the character that may not stand there, or where its token begins.
func (l *Lexer) faultAt(code api.Errno) api.Place {
	if code == api.ErrScanText {
		return place.Advance(l.begin, string(l.token))
	}
	return l.begin
}

func isBlank(point rune) bool { return strings.ContainsRune(blanks, point) }

func isDigit(point rune) bool { return point >= '0' && point <= '9' }

func isControl(point rune) bool { return point < 0x20 || point == 0x7f }

func endsLine(point rune) bool { return point == feed || point == end }
