package samples

import (
	"iter"
	"math"
	"strconv"
	"strings"

	"colophon/api"
)

// Piece is the one that a word stands for: S a Blank, B3 a Break, H a Hard, E an Empty, [2 and [e2 a Begin, ] an End; any
// other word is a Text, in which | is a line's end and _ a blank.
func Piece(word string) api.Doc {
	switch word {
	case "S":
		return api.Doc{Kind: api.Blank}
	case "H":
		return api.Doc{Kind: api.Hard}
	case "E":
		return api.Doc{Kind: api.Empty}
	case "]":
		return api.Doc{Kind: api.End}
	}
	if n, ok := numbered(word, "[e"); ok {
		return api.Doc{Kind: api.Begin, Indent: n, Even: true}
	}
	if n, ok := numbered(word, "["); ok {
		return api.Doc{Kind: api.Begin, Indent: n}
	}
	if n, ok := numbered(word, "B"); ok {
		return api.Doc{Kind: api.Break, Blanks: n}
	}
	return api.Doc{Kind: api.Text, Text: Text(word)}
}

// numbered is the number behind what a word begins with.
func numbered(word, first string) (int, bool) {
	digits, begins := strings.CutPrefix(word, first)
	n, err := strconv.Atoi(digits)
	return n, begins && err == nil
}

// Text is the text that a word stands for.
func Text(word string) string { return strings.NewReplacer("|", "\n", "_", " ").Replace(word) }

// Layout is the pieces that words stand for.
func Layout(words string) []api.Doc {
	var l []api.Doc
	for _, word := range strings.Fields(words) {
		l = append(l, Piece(word))
	}
	return l
}

// Words is a layout as a test that fails tells it, in words as they make one; of a long one its first pieces.
func Words(l []api.Doc) string {
	var words []string
	for i, d := range l {
		if i == 60 {
			words = append(words, "..", "("+strconv.Itoa(len(l)), "pieces)")
			break
		}
		words = append(words, wordOf(d))
	}
	return strings.Join(words, " ")
}

func wordOf(d api.Doc) string {
	switch d.Kind {
	case api.Text:
		return Short(d.Text)
	case api.Blank:
		return "S"
	case api.Break:
		return "B" + strconv.Itoa(d.Blanks)
	case api.Hard:
		return "H"
	case api.Empty:
		return "E"
	case api.Begin:
		if d.Even {
			return "[e" + strconv.Itoa(d.Indent)
		}
		return "[" + strconv.Itoa(d.Indent)
	case api.End:
		return "]"
	}
	return "?"
}

// Short is a text as a test that fails tells it; of a long one its beginning and its end.
func Short(s string) string {
	const some = 150
	if len(s) <= 2*some {
		return strconv.Quote(s)
	}
	return strconv.Quote(s[:some]) + " .. " + strconv.Quote(s[len(s)-some:]) + " (" + strconv.Itoa(len(s)) + " bytes)"
}

// Layouts goes through all layouts that may be of at most so many of the words' pieces. A layout is good till the next one
// is asked for.
func Layouts(words string, most int) iter.Seq[[]api.Doc] {
	return func(yield func([]api.Doc) bool) {
		growLayout(Layout(words), nil, 0, most, yield)
	}
}

// growLayout goes through a layout, some of whose blocks are open, and those that have it ahead; false: no more are wanted.
func growLayout(pieces, l []api.Doc, open, more int, yield func([]api.Doc) bool) bool {
	if open == 0 && !yield(l) {
		return false
	}
	for _, d := range pieces {
		now := open + step(d)
		// Where it can't be ended any more, nothing that may be has it ahead.
		if now < 0 || now > more-1 {
			continue
		}
		if !growLayout(pieces, append(l, d), now, more-1, yield) {
			return false
		}
	}
	return true
}

// step is how many more blocks are open behind a piece.
func step(d api.Doc) int {
	switch d.Kind {
	case api.Begin:
		return 1
	case api.End:
		return -1
	}
	return 0
}

// SomeLayout is a layout that may be, of about so many of the words' pieces and some Ends. It is ended behind them; pick
// says which of n comes next.
func SomeLayout(pick func(n int) int, words string, size int) []api.Doc {
	l := SomePieces(pick, words, size)
	open := 0
	for _, d := range l {
		open += step(d)
	}
	for range open {
		l = append(l, api.Doc{Kind: api.End})
	}
	return l
}

// SomePieces is the beginning of such a layout: blocks may be open behind it.
func SomePieces(pick func(n int) int, words string, size int) []api.Doc {
	pieces := Layout(words)
	var l []api.Doc
	open := 0
	for range size {
		d := pieces[pick(len(pieces))]
		if open > 0 && pick(4) == 0 {
			d = api.Doc{Kind: api.End}
		}
		if open+step(d) < 0 {
			continue
		}
		open += step(d)
		l = append(l, d)
	}
	return l
}

// WrongPieces are pieces that are not right, of each kind.
func WrongPieces() []api.Doc {
	l := []api.Doc{
		{}, {Kind: 8}, {Kind: 9}, {Kind: 255}, {Text: "a"},
		{Kind: api.Text}, {Kind: api.Text, Text: " "}, {Kind: api.Text, Text: "\n"}, {Kind: api.Text, Text: " a"},
		{Kind: api.Text, Text: "a "}, {Kind: api.Text, Text: "\na"}, {Kind: api.Text, Text: "a\n"},
		{Kind: api.Text, Text: strings.Repeat("a", api.MaxTok+1)},
		{Kind: api.Break, Blanks: -1}, {Kind: api.Break, Blanks: 1001}, {Kind: api.Break, Blanks: math.MinInt}, {Kind: api.Break, Blanks: math.MaxInt},
		{Kind: api.Begin, Indent: -1}, {Kind: api.Begin, Indent: 1001}, {Kind: api.Begin, Indent: math.MinInt}, {Kind: api.Begin, Indent: math.MaxInt},
	}
	for kind := api.Text; kind <= api.End; kind++ {
		text := ""
		if kind == api.Text {
			text = "a"
		} else {
			l = append(l, api.Doc{Kind: kind, Text: "a"})
		}
		if kind != api.Break {
			l = append(l, api.Doc{Kind: kind, Text: text, Blanks: 1})
		}
		if kind != api.Begin {
			l = append(l, api.Doc{Kind: kind, Text: text, Indent: 1}, api.Doc{Kind: kind, Text: text, Even: true})
		}
	}
	return l
}
