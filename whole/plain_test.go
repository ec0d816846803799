package whole_test

import (
	"fmt"
	"iter"
	"math/rand/v2"
	"strconv"
	"strings"
	"testing"

	"colophon/api"
	"colophon/whole"
	"colophon/width"
)

// piece is the one that a word stands for: S a Blank, B3 a Break, H a Hard, E an Empty, [2 and [e2 a Begin, ] an End; any
// other word is a Text, in which | is a line's end and _ a blank.
func piece(word string) api.Doc {
	switch {
	case word == "S":
		return api.Doc{Kind: api.Blank}
	case word == "H":
		return api.Doc{Kind: api.Hard}
	case word == "E":
		return api.Doc{Kind: api.Empty}
	case word == "]":
		return api.Doc{Kind: api.End}
	case strings.HasPrefix(word, "[e"):
		return api.Doc{Kind: api.Begin, Indent: number(word[2:]), Even: true}
	case strings.HasPrefix(word, "["):
		return api.Doc{Kind: api.Begin, Indent: number(word[1:])}
	case strings.HasPrefix(word, "B"):
		return api.Doc{Kind: api.Break, Blanks: number(word[1:])}
	}
	return api.Doc{Kind: api.Text, Text: strings.NewReplacer("|", "\n", "_", " ").Replace(word)}
}

func number(s string) int {
	n, err := strconv.Atoi(s)
	if err != nil {
		panic(err)
	}
	return n
}

// of is the layout that words stand for.
func of(words string) []api.Doc {
	var l []api.Doc
	for _, word := range strings.Fields(words) {
		l = append(l, piece(word))
	}
	return l
}

// The chapter's words once more, the plain way: each width is looked for anew, forward, whenever it is asked for.

const endless = 1 << 40

func plainWide(d api.Doc) int {
	switch {
	case d.Kind == api.Hard || d.Kind == api.Empty || strings.Contains(d.Text, "\n"):
		return endless
	case d.Kind == api.Text:
		return width.Text(d.Text)
	case d.Kind == api.Blank:
		return 1
	case d.Kind == api.Break:
		return d.Blanks
	}
	return 0
}

// plainReach is how wide a row of pieces is, from the first one to where a block that the row does not begin ends, or, if
// up is so, to where one of the row's own level ends what hangs on a Break.
func plainReach(row []api.Doc, up bool) int {
	sum, open := 0, 0
	for _, d := range row {
		ender := d.Kind == api.Break || d.Kind == api.Hard || d.Kind == api.Empty
		if open == 0 && (d.Kind == api.End || up && ender) {
			break
		}
		switch d.Kind {
		case api.Begin:
			open++
		case api.End:
			open--
		}
		sum += plainWide(d)
	}
	return sum
}

// plainBlock is the index of the Begin of the piece's own block; -1: it is the whole's.
func plainBlock(l []api.Doc, i int) int {
	open := 0
	for k := i - 1; k >= 0; k-- {
		if l[k].Kind == api.Begin && open == 0 {
			return k
		}
		switch l[k].Kind {
		case api.Begin:
			open--
		case api.End:
			open++
		}
	}
	return -1
}

// plainIndent is the indent of the block that begins there.
func plainIndent(l []api.Doc, begin int) int {
	if begin < 0 {
		return 0
	}
	return min(1000, plainIndent(l, plainBlock(l, begin))+l[begin].Indent)
}

// page is what is printed: the text, without the blanks that are held back, the column, and whether a line begins.
type page struct {
	text   string
	held   string
	column int
	begins bool
	last   api.DocKind // of the piece that did something
}

func (p *page) putText(t string) {
	p.text += p.held + t
	p.held, p.begins, p.last = "", false, api.Text
	p.column += width.Text(t)
	if i := strings.LastIndex(t, "\n"); i >= 0 {
		p.column = width.Text(t[i+1:])
	}
}

func (p *page) putBlanks(n int, kind api.DocKind) {
	if !p.begins {
		p.held += strings.Repeat(" ", n)
		p.column += n
		p.last = kind
	}
}

func (p *page) endLine(indent int, kind api.DocKind) {
	if !p.begins {
		p.text += "\n"
		p.held, p.column, p.begins, p.last = strings.Repeat(" ", indent), indent, true, kind
	}
}

func (p *page) putEmpty() {
	if p.begins && p.text != "" && p.last != api.Empty {
		p.text += "\n"
		p.last = api.Empty
	}
}

// plainPrint is what is printed of a layout that may be.
func plainPrint(columns int, l []api.Doc) string {
	p := page{begins: true}
	fits := make([]bool, len(l))
	for i, d := range l {
		block, room := plainBlock(l, i), columns-p.column
		switch d.Kind {
		case api.Text:
			p.putText(d.Text)
		case api.Blank:
			p.putBlanks(1, api.Blank)
		case api.Hard:
			p.endLine(plainIndent(l, block), api.Hard)
		case api.Empty:
			p.putEmpty()
		case api.Begin:
			fits[i] = plainReach(l[i+1:], false) <= room
		case api.Break:
			ends := d.Blanks+plainReach(l[i+1:], true) > room
			if block >= 0 && l[block].Even {
				ends = !fits[block]
			}
			if ends {
				p.endLine(plainIndent(l, block), api.Break)
			} else {
				p.putBlanks(d.Blanks, api.Break)
			}
		}
	}
	return p.text
}

// short is a text as a failure tells it.
func short(s string) string {
	if len(s) > 300 {
		return fmt.Sprintf("%q .. %q (%d bytes)", s[:150], s[len(s)-150:], len(s))
	}
	return strconv.Quote(s)
}

// shortLayout is a layout as a failure tells it, in words as they make one.
func shortLayout(l []api.Doc) string {
	var words []string
	for i, d := range l {
		if i == 60 {
			return fmt.Sprintf("%s .. (%d pieces)", strings.Join(words, " "), len(l))
		}
		word := [...]string{"?", short(d.Text), "S", fmt.Sprintf("B%d", d.Blanks), "H", "E", fmt.Sprintf("[%d", d.Indent), "]"}[d.Kind]
		if d.Even {
			word = fmt.Sprintf("[e%d", d.Indent)
		}
		words = append(words, word)
	}
	return strings.Join(words, " ")
}

// printIs holds what is printed of a layout that may be.
func printIs(t *testing.T, columns int, l []api.Doc, want string) {
	t.Helper()
	if s, e := whole.Print(columns, l); s != want || e != api.OK {
		t.Errorf("Print(%d, %s) = %s, %d, not %s", columns, shortLayout(l), short(s), e, short(want))
	}
}

// refused holds that nothing is printed but an error.
func refused(t *testing.T, columns int, l []api.Doc, want api.Errno) {
	t.Helper()
	if s, e := whole.Print(columns, l); s != "" || e != want {
		t.Errorf("Print(%d, of %d pieces) = %s, %d, not %d", columns, len(l), short(s), e, want)
	}
}

// printed is what is printed of a layout that may be, where that is looked at in other ways.
func printed(t *testing.T, columns int, l []api.Doc) string {
	t.Helper()
	s, e := whole.Print(columns, l)
	if e != api.OK {
		t.Fatalf("Print(%d, %s) = %d", columns, shortLayout(l), e)
	}
	return s
}

// layouts goes through all layouts that may be of at most so many of the words' pieces.
func layouts(words string, most int) iter.Seq[[]api.Doc] {
	return func(yield func([]api.Doc) bool) {
		grow(of(words), nil, 0, most, yield)
	}
}

// grow goes through a layout, some of whose blocks are open, and those that have it ahead; false: no more are wanted.
func grow(pieces, l []api.Doc, open, more int, yield func([]api.Doc) bool) bool {
	if open == 0 && !yield(l) {
		return false
	}
	for _, d := range pieces {
		now := open
		switch d.Kind {
		case api.Begin:
			now++
		case api.End:
			now--
		}
		// Where it can't be ended any more, nothing that may be has it ahead.
		if now < 0 || now > more-1 {
			continue
		}
		if !grow(pieces, append(l, d), now, more-1, yield) {
			return false
		}
	}
	return true
}

// someLayout is a layout that may be, of so many of the words' pieces and some Ends.
func someLayout(r *rand.Rand, words string, size int) []api.Doc {
	pieces := of(words)
	var l []api.Doc
	open := 0
	for range size {
		d := pieces[r.IntN(len(pieces))]
		if open > 0 && r.IntN(4) == 0 {
			d = piece("]")
		}
		switch d.Kind {
		case api.Begin:
			open++
		case api.End:
			open--
		}
		if open < 0 {
			open = 0
			continue
		}
		l = append(l, d)
	}
	for range open {
		l = append(l, piece("]"))
	}
	return l
}
