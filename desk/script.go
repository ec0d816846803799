package desk

import (
	"strconv"
	"strings"

	"colophon/api"
)

const (
	maxLines   = 1000
	maxNumber  = 9999999 // of 7 digits
	maxWorkers = 16
)

// line is one that does something.
type line struct {
	at    int    // which of the script's lines it is
	says  string // as it stands there
	deed  deed
	n     int
	block string
}

// read is what a script's lines are to do. Not 0: the first line that may not be.
func read(text string) ([]line, int) {
	r := reader{rest: text, deeds: deeds()}
	var all []line
	for r.rest != "" {
		l, ok := r.line()
		if !ok {
			return nil, r.at
		}
		if l.deed != nil {
			all = append(all, l)
		}
	}
	return all, 0
}

// reader goes through a script.
type reader struct {
	rest  string
	at    int // the line that was read last
	deeds map[string]deed
}

// line reads a line, with the block behind it. It has no deed, if it says nothing; false: the line at which the reader
// stands may not be.
func (r *reader) line() (line, bool) {
	says, ok := r.next()
	if !ok || says == "" || says[0] == '#' {
		return line{}, ok
	}
	word, digits, numbered := strings.Cut(says, " ")
	l := line{at: r.at, says: says, deed: r.deeds[word]}
	l.n, ok = number(word, digits, numbered)
	if l.deed == nil || !ok {
		return line{}, false
	}
	if word == "source" || word == "add" {
		l.block, ok = r.block()
	}
	return l, ok
}

// next reads the next line, whatever it says; false: it may not be. Where the text is at its end, that is one line more.
func (r *reader) next() (string, bool) {
	says, rest, ended := strings.Cut(r.rest, "\n")
	r.rest = rest
	r.at++
	return says, ended && r.at <= maxLines
}

// block reads lines, up to its end and with that.
func (r *reader) block() (string, bool) {
	from := r.rest
	for {
		size := len(from) - len(r.rest)
		says, ok := r.next()
		if !ok {
			return "", false
		}
		if says == "done" {
			return from[:size], true
		}
	}
}

// number is the N behind a word, or 0, if it takes none; false: there is one where none may be, none where one must be, or
// one that may not be.
func number(word, digits string, numbered bool) (int, bool) {
	least, most, takes := bounds(word)
	if !takes || !numbered {
		return 0, takes == numbered
	}
	n, err := strconv.Atoi(digits)
	return n, err == nil && strconv.Itoa(n) == digits && n >= least && n <= most
}

// bounds are those of the N that a word takes; false: it takes none.
func bounds(word string) (least, most int, takes bool) {
	switch word {
	case "cut":
		return 0, maxNumber, true
	case "drive":
		return 1, maxNumber, true
	case "width":
		return 1, api.MaxWidth, true
	case "batch":
		return 1, maxWorkers, true
	}
	return 0, 0, false
}
