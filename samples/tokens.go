package samples

import (
	"strconv"
	"strings"

	"colophon/api"
)

// KindWord is what a test calls a token's kind.
func KindWord(k api.TokKind) string {
	switch k {
	case api.TokName:
		return "Name"
	case api.TokKey:
		return "Key"
	case api.TokNumber:
		return "Number"
	case api.TokText:
		return "Text"
	case api.TokChar:
		return "Char"
	case api.TokSign:
		return "Sign"
	case api.TokLine:
		return "Line"
	case api.TokBlock:
		return "Block"
	}
	return "kind " + strconv.Itoa(int(k))
}

// ErrorWord is what it calls an error of tokens, or of what is made of them.
func ErrorWord(e api.Errno) string {
	switch e {
	case api.OK:
		return "OK"
	case api.ErrNil:
		return "ErrNil"
	case api.ErrDone:
		return "ErrDone"
	case api.ErrScanByte:
		return "ErrScanByte"
	case api.ErrScanOpen:
		return "ErrScanOpen"
	case api.ErrScanText:
		return "ErrScanText"
	case api.ErrScanLong:
		return "ErrScanLong"
	case api.ErrParseTok:
		return "ErrParseTok"
	case api.ErrParseEnd:
		return "ErrParseEnd"
	case api.ErrParseDeep:
		return "ErrParseDeep"
	case api.ErrTreeForm:
		return "ErrTreeForm"
	}
	return e.Error()
}

// PlaceWord tells a place as the document does: At Line:Column.
func PlaceWord(p api.Place) string {
	return strconv.Itoa(p.At) + " " + strconv.Itoa(p.Line) + ":" + strconv.Itoa(p.Column)
}

// TokWord tells a token: kind, text, place, Feeds.
func TokWord(t api.Tok) string {
	return KindWord(t.Kind) + " " + Short(t.Text) + " " + PlaceWord(t.Place) + " " + strconv.Itoa(t.Feeds)
}

// AnswerWord tells an answer: the tokens, of many the first ones; and an error with its place.
func AnswerWord(l []api.Tok, code api.Errno, at api.Place) string {
	var words []string
	for i, tok := range l {
		if i == 40 {
			words = append(words, ".. ("+strconv.Itoa(len(l))+" tokens)")
			break
		}
		words = append(words, TokWord(tok))
	}
	if code != api.OK || at != (api.Place{}) {
		words = append(words, ErrorWord(code)+" at "+PlaceWord(at))
	}
	return strings.Join(words, "; ")
}
