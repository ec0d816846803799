package whole_test

import (
	"math/rand/v2"
	"slices"
	"strings"
	"sync"
	"testing"
	"unsafe"

	"colophon/api"
	"colophon/plain"
	"colophon/samples"
	"colophon/whole"
	"colophon/width"
)

// flat is a layout's pieces in one line, with all their blanks.
func flat(l []api.Doc) string {
	line := ""
	for _, d := range l {
		switch d.Kind {
		case api.Text:
			line += d.Text
		case api.Blank:
			line += " "
		case api.Break:
			line += strings.Repeat(" ", d.Blanks)
		}
	}
	return line
}

// named is a layout whose Texts are all different, each of one byte more at its beginning than it had, by which it is found.
func named(l []api.Doc) []api.Doc {
	l = slices.Clone(l)
	next := byte(0xff)
	for i, d := range l {
		if d.Kind == api.Text {
			l[i].Text = string([]byte{next}) + d.Text
			next--
		}
	}
	return l
}

// blockOf is the pieces within the block that begins there.
func blockOf(l []api.Doc, begin int) []api.Doc {
	open := 1
	for i := begin + 1; ; i++ {
		switch l[i].Kind {
		case api.Begin:
			open++
		case api.End:
			open--
		}
		if open == 0 {
			return l[begin+1 : i]
		}
	}
}

// A block that begins with a Text begins where that is printed, so that its room is seen in what is printed; if it fits,
// all of it stands there in one line.
func TestP8_2InABlockThatFitsAllBreaksAreBlanks(t *testing.T) {
	fits, inner := 0, 0
	for l := range samples.Layouts("a B1 H [1 [e2 ]", 8) {
		l = named(l)
		for columns := 2; columns <= 10; columns += 2 {
			s := printed(t, columns, l)
			for i, d := range l {
				if d.Kind != api.Begin || l[i+1].Kind != api.Text {
					continue
				}
				block := blockOf(l, i)
				line := flat(block)
				if slices.Contains(block, samples.Piece("H")) {
					continue
				}
				at := strings.Index(s, l[i+1].Text)
				column := width.Text(s[strings.LastIndex(s[:at], "\n")+1 : at])
				if width.Text(line) > columns-column {
					continue
				}
				fits++
				inner += strings.Count(line, " ")
				if !strings.HasPrefix(s[at:], strings.TrimRight(line, " ")) {
					t.Fatalf("Print(%d, %s) = %q: the block %d fits", columns, samples.Words(l), s, i)
				}
			}
		}
	}
	if fits < 10000 || inner < 10000 {
		t.Errorf("only %d blocks fitted, with %d blanks", fits, inner)
	}
}

// linesAreRight holds what is said of the lines of a layout without line ends in its Texts.
func linesAreRight(t *testing.T, columns int, l []api.Doc) (ends, empties int) {
	t.Helper()
	s := printed(t, columns, l)
	switch {
	case strings.Contains(s, " \n") || strings.HasSuffix(s, " "):
		t.Fatalf("Print(%d, %s) = %s: a line ends with a blank", columns, samples.Words(l), samples.Short(s))
	case strings.HasPrefix(s, "\n"):
		t.Fatalf("Print(%d, %s) = %s: it begins with an empty line", columns, samples.Words(l), samples.Short(s))
	case strings.Contains(s, "\n\n\n"):
		t.Fatalf("Print(%d, %s) = %s: two empty lines", columns, samples.Words(l), samples.Short(s))
	}
	return strings.Count(s, "\n"), strings.Count(s, "\n\n")
}

func TestP8_2Lines(t *testing.T) {
	ends, empties := 0, 0
	hold := func(columns int, l []api.Doc) {
		n, m := linesAreRight(t, columns, l)
		ends, empties = ends+n, empties+m
	}
	for l := range samples.Layouts("a S B0 B2 H E [1 [e2 ]", 6) {
		for _, columns := range []int{1, 2, 4, 4096} {
			hold(columns, l)
		}
	}
	r := rand.New(rand.NewPCG(8, 2))
	for range 500 {
		l := samples.SomeLayout(r.IntN, "a bb \xff 日 c_d S B0 B1 B9 H E E [0 [1 [e2 [500 ] ]", 400)
		for _, columns := range []int{1, 5, 80, 600, 4096} {
			hold(columns, l)
		}
	}
	if ends < 100000 || empties < 10000 {
		t.Errorf("only %d lines were ended, and %d left empty", ends, empties)
	}
}

// A line with a Text that has line ends may end with a blank that stands in the Text, and with no other.
func TestP8_2BlanksInTexts(t *testing.T) {
	for l := range samples.Layouts("a {_|_} x S B1 H E [e2 ]", 6) {
		s := printed(t, 3, l)
		s = strings.ReplaceAll(s, "{ \n", "{\n")
		if strings.Contains(s, " \n") || strings.HasSuffix(s, " ") {
			t.Fatalf("Print(3, %s) = %q without the Texts' blanks", samples.Words(l), s)
		}
	}
}

func TestP8_3AllInOneLine(t *testing.T) {
	met := 0
	hold := func(l []api.Doc) {
		line := flat(l)
		wide := width.Text(line)
		for _, columns := range []int{wide, wide + 1, 2 * wide, 4096} {
			if columns > 0 && columns <= 4096 {
				met++
				printIs(t, columns, l, strings.Trim(line, " "))
			}
		}
		if t.Failed() {
			t.FailNow()
		}
	}
	for l := range samples.Layouts("a 日 S B0 B2 [1 [e2 ]", 6) {
		hold(l)
	}
	r := rand.New(rand.NewPCG(8, 3))
	for range 1000 {
		hold(samples.SomeLayout(r.IntN, "a bb 日 \u0301 \xff c_d S B0 B1 B7 [0 [1 [e2 [e500 ] ]", r.IntN(300)))
	}
	if met < 10000 {
		t.Errorf("only %d layouts", met)
	}
}

// without is a layout without its Begins and Ends.
func without(l []api.Doc) []api.Doc {
	return slices.DeleteFunc(slices.Clone(l), func(d api.Doc) bool { return d.Kind == api.Begin || d.Kind == api.End })
}

// bare tells whether no block has a Break, a Hard, an Empty.
func bare(l []api.Doc) bool {
	open := 0
	for _, d := range l {
		switch d.Kind {
		case api.Begin:
			open++
		case api.End:
			open--
		case api.Break, api.Hard, api.Empty:
			if open > 0 {
				return false
			}
		}
	}
	return true
}

func TestP8_3BlocksThatMeanNothing(t *testing.T) {
	met := 0
	for l := range samples.Layouts("a b|cc S B1 H E [1 [e2 ]", 6) {
		if !bare(l) || !slices.ContainsFunc(l, func(d api.Doc) bool { return d.Kind == api.Begin }) {
			continue
		}
		met++
		for columns := 1; columns <= 6; columns++ {
			printIs(t, columns, l, printed(t, columns, without(l)))
		}
		if t.Failed() {
			t.FailNow()
		}
	}
	if met < 10000 {
		t.Errorf("only %d layouts", met)
	}
}

func TestR2ListsAreNotWrittenInto(t *testing.T) {
	spare := append(of("a B1 ] [2 H"), api.Doc{})
	for _, words := range []string{"", "a", "[2 a B1 b ]", "[e2 a B1 b H E c ] S", "a ]", "[2", "a B1001 b"} {
		l := of(words)
		room := slices.Concat(l, spare)
		kept := slices.Clone(room)
		for _, columns := range []int{0, 1, 3, 4096, 4097} {
			first, e1 := whole.Print(columns, room[:len(l)])
			second, e2 := whole.Print(columns, l)
			if first != second || e1 != e2 {
				t.Errorf("Print(%d, %q) = %q, %d with spare room, %q, %d without", columns, words, first, e1, second, e2)
			}
			if !slices.Equal(room, kept) {
				t.Fatalf("%q: the list or its spare room is changed: %s", words, samples.Words(room))
			}
		}
	}
}

// What is printed must not lie in a Text that was handed in, though it is the same bytes.
func TestR2TheAnswerIsNew(t *testing.T) {
	text := strings.Clone("abcdef")
	s := printed(t, 80, []api.Doc{{Kind: api.Text, Text: text}})
	if s != text || unsafe.StringData(s) == unsafe.StringData(text) {
		t.Errorf("%q is not new", s)
	}
}

// The same call answers the same, whatever was called ahead or is called at the same time.
func TestR2CallsKnowNothingOfOneAnother(t *testing.T) {
	r := rand.New(rand.NewPCG(8, 4))
	var all [][]api.Doc
	var want []string
	for range 50 {
		l := samples.SomeLayout(r.IntN, "a bb ccc S B1 B1 H E [2 [e2 ] x|y", 200)
		all, want = append(all, l), append(want, plain.Print(12, l))
	}
	var group sync.WaitGroup
	for range 4 {
		group.Go(func() {
			for i, l := range all {
				whole.Print(12, of("[2 a"))
				whole.Print(0, l)
				if s, e := whole.Print(12, l); s != want[i] || e != api.OK {
					t.Errorf("Print(12, %s) = %s, %d, not %s", samples.Words(l), samples.Short(s), e, samples.Short(want[i]))
				}
			}
		})
	}
	group.Wait()
}
