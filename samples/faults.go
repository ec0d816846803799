package samples

import (
	"errors"
	"strings"
	"unicode/utf8"

	"colophon/api"
)

// FaultWord tells an error that a call answers: its number and its place; nothing, if there is none. It says so if that is
// no Fault, or is not found in it as the document has it found.
func FaultWord(err error) string {
	if err == nil {
		return ""
	}
	f, ok := err.(*api.Fault)
	if !ok || f == nil || f.Code == api.OK {
		return "no Fault: " + err.Error()
	}
	var found *api.Fault
	if !errors.As(err, &found) || found != f || !errors.Is(err, f.Code) || errors.Is(err, f.Code+1) {
		return "not found: " + err.Error()
	}
	return FaultAt(f.Code, f.Place)
}

// FaultAt is such a word of a number and a place.
func FaultAt(code api.Errno, at api.Place) string { return ErrorWord(code) + " at " + PlaceWord(at) }

// EndOf is the place behind a source's last byte: a character there is what Go takes for one.
func EndOf(source string) api.Place {
	line := source[strings.LastIndex(source, "\n")+1:]
	return api.Place{At: len(source), Line: 1 + strings.Count(source, "\n"), Column: 1 + utf8.RuneCountInString(line)}
}
