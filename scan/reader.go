package scan

import (
	"strings"

	"colophon/api"
	"colophon/char"
	"colophon/class"
	"colophon/place"
)

const (
	none   rune = -1 // where the source ends
	feed   rune = '\n'
	blanks      = " \t\r"
)

// reader stands ahead of a character of a source. Good or bad tells nothing here: a bad byte's point begins no token, goes
// on with no name and is no control, and the same holds of the good character of that point.
type reader struct {
	source string
	at     int       // where the character begins
	point  rune      // its point, or none
	size   int       // how many bytes it has
	begin  api.Place // of the token that is under way, or of the last one
	feeds  int       // line ends between the last token and here
	told   []api.Tok
}

// look finds the character that begins here.
func (r *reader) look() {
	point, size, _ := char.Next(r.source, r.at)
	r.point, r.size = rune(point), size
	if size == 0 {
		r.point = none
	}
}

// take goes behind the character.
func (r *reader) take() {
	r.at += r.size
	r.look()
}

// pass goes behind one that stands between tokens.
func (r *reader) pass() {
	if r.point == feed {
		r.feeds++
	}
	r.take()
}

// start begins a token here. Its place comes of the last one's, so that each byte is counted just once.
func (r *reader) start() { r.begin = r.here() }

// here is the place of the character.
func (r *reader) here() api.Place { return place.Advance(r.begin, r.bytes()) }

// bytes are those from the token's first one up to here.
func (r *reader) bytes() string { return r.source[r.begin.At:r.at] }

// isFull tells whether the token can't have the character, too.
func (r *reader) isFull() bool { return len(r.bytes())+r.size > api.MaxTok }

// wordKind tells a word of the language from a name.
func (r *reader) wordKind() api.TokKind {
	if class.IsKey(r.bytes()) {
		return api.TokKey
	}
	return api.TokName
}

// tell ends the token here. Its text is a copy, so that it does not keep all of the source.
func (r *reader) tell(kind api.TokKind) api.Errno {
	text := r.bytes()
	if kind == api.TokLine {
		text = strings.TrimRight(text, blanks)
	}
	r.told = append(r.told, api.Tok{Kind: kind, Text: strings.Clone(text), Place: r.begin, Feeds: r.feeds})
	r.feeds = 0
	return api.OK
}

// faultAt is where an error is: at the character that may not stand here, or where its token begins.
func (r *reader) faultAt(code api.Errno) api.Place {
	switch code {
	case api.OK:
		return api.Place{}
	case api.ErrScanText:
		return r.here()
	}
	return r.begin
}

func isBlank(point rune) bool { return strings.ContainsRune(blanks, point) }

func isDigit(point rune) bool { return point >= '0' && point <= '9' }

func isControl(point rune) bool { return point < 0x20 || point == 0x7f }

func endsLine(point rune) bool { return point == feed || point == none }
