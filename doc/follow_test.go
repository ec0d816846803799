package doc_test

import (
	"math/rand"
	"slices"
	"strings"
	"testing"
	"unsafe"

	"colophon/api"
	"colophon/doc"
	"colophon/samples"
)

// thereAndBack holds that Parse of what Print tells is the layout; it tells whether there was something to hold.
func thereAndBack(t *testing.T, l []api.Doc) bool {
	t.Helper()
	s, e := doc.Print(l)
	if e != api.OK {
		return false
	}
	if got, e, line := doc.Parse(s); e != api.OK || line != 0 || !slices.Equal(got, l) {
		t.Errorf("Parse of Print of %s= %s, %d, %d", shortLayout(l), shortLayout(got), e, line)
	}
	return true
}

// backAndThere holds that Print of what Parse reads is the text; it tells whether there was something to hold.
func backAndThere(t *testing.T, s string) bool {
	t.Helper()
	l, e, _ := doc.Parse(s)
	if e != api.OK {
		return false
	}
	if got, e := doc.Print(l); e != api.OK || got != s {
		t.Errorf("Print of Parse of %s = %s, %d", short(s), short(got), e)
	}
	return true
}

func TestP7_4ParseOfPrint(t *testing.T) {
	met := 0
	for letters := range samples.Texts(strings.Split("tbkhe([)TZ", ""), 5) {
		if thereAndBack(t, of(letters)) {
			met++
		}
	}
	if met < 5000 {
		t.Errorf("%d layouts were printed", met)
	}
}

func TestP7_4PrintOfParse(t *testing.T) {
	for _, c := range []struct {
		ahead  string
		parts  []string
		most   int
		behind string
		least  int
	}{
		{"", []string{"text a\n", "blank\n", "break 0\n", "hard\n", "empty\n", "begin 7\n", "begin 0 even\n", "end\n", "\n"}, 5, "", 5000},
		{"text ", []string{"\\", "x", "0", "a", "f", " ", "\\x", "\xff", "A"}, 6, "\n", 5000},
		{"break ", []string{"0", "1", "5", "9", "00", "+", " "}, 5, "\n", 50},
		{"begin ", []string{"0", "1", "5", "9", "00", "+", " even"}, 5, "\nend\n", 100},
	} {
		met := 0
		for s := range samples.Texts(c.parts, c.most) {
			if backAndThere(t, c.ahead+s+c.behind) {
				met++
			}
		}
		if met < c.least {
			t.Errorf("%q %q: %d texts were read", c.ahead, c.parts, met)
		}
	}
}

func TestP7_4EveryByteAndPair(t *testing.T) {
	for c := range 256 * 256 {
		text := "a" + string([]byte{byte(c >> 8), byte(c)}) + "a"
		if !thereAndBack(t, []api.Doc{{Kind: api.Text, Text: text}}) {
			t.Errorf("%q is not printed", text)
		}
	}
}

// someLayout is a layout that may be, of so many pieces and some Ends.
func someLayout(r *rand.Rand, size int) []api.Doc {
	var l []api.Doc
	open := 0
	for range size {
		d := of(string("tbkhe(["[r.Intn(7)]))[0]
		if open > 0 && r.Intn(4) == 0 {
			d = of(")")[0]
		}
		switch d.Kind {
		case api.Text:
			b := make([]byte, r.Intn(12))
			r.Read(b)
			d.Text = "." + string(b) + "."
		case api.Break:
			d.Blanks = r.Intn(1001)
		case api.Begin:
			d.Indent = r.Intn(1001)
			open++
		case api.End:
			open--
		}
		l = append(l, d)
	}
	return append(l, slices.Repeat(of(")"), open)...)
}

func TestP7_4LongLayouts(t *testing.T) {
	r := rand.New(rand.NewSource(7))
	for n := range 200 {
		l := someLayout(r, n*7)
		holdLayout(t, l)
		if !thereAndBack(t, l) {
			t.Errorf("a layout of %d pieces is not printed", len(l))
		}
		s, _ := plainPrint(l)
		if !backAndThere(t, s) {
			t.Errorf("a text of %d bytes is not read", len(s))
		}
	}
	for _, c := range []struct {
		letters string
		times   int
	}{{"h", 838860}, {"()", 349525}, {"[tbkhe)", 85598}} {
		if !thereAndBack(t, slices.Repeat(of(c.letters), c.times)) {
			t.Errorf("%d times %q is not printed", c.times, c.letters)
		}
	}
}

func TestR1ResultsBesideAnError(t *testing.T) {
	for _, l := range [][]api.Doc{of("tT"), of("("), of("t)"), slices.Repeat(of("b"), 2097152), slices.Repeat(of("b"), 2097153)} {
		if s, e := doc.Print(l); e == api.OK || s != "" {
			t.Errorf("Print of %s= %s, %d", shortLayout(l), short(s), e)
		}
	}
	for _, s := range []string{"text a\nx\n", "text a\nend\n", "begin 0\ntext a\n", "text a\ntext b", strings.Repeat("hard\n", 900000)} {
		if l, e, _ := doc.Parse(s); e == api.OK || len(l) != 0 {
			t.Errorf("Parse(%s) = %s, %d", short(s), shortLayout(l), e)
		}
	}
}

func TestR2ListsAreNotWrittenInto(t *testing.T) {
	for letters := range samples.Texts(strings.Split("tk([)T", ""), 4) {
		whole := append(of(letters), of("ZTKth")...)
		kept := slices.Clone(whole)
		l := whole[:len(letters)]
		doc.Check(l)
		doc.Print(l)
		if !slices.Equal(whole, kept) {
			t.Fatalf("%q: the list or its spare room is changed: %s", letters, shortLayout(whole))
		}
	}
}

func TestR2ListsAreNew(t *testing.T) {
	s := "begin 3 even\ntext a\nbreak 2\nend\n"
	first, _, _ := doc.Parse(s)
	second, _, _ := doc.Parse(s)
	if len(first) != 4 || len(second) != 4 {
		t.Fatalf("Parse(%q) has %d and %d pieces", s, len(first), len(second))
	}
	clear(first[:cap(first)])
	third, _, _ := doc.Parse(s)
	for _, l := range [][]api.Doc{second, third} {
		if got, e := doc.Print(l); e != api.OK || got != s {
			t.Errorf("changing one answer changed another: %q, %d", got, e)
		}
	}
}

// A text that is read must not keep all the text that it stood in.
func TestR2TextsAreNew(t *testing.T) {
	s := strings.Clone("text abcdef\ntext \\\\abc\ntext a\\xffbc\n")
	first := uintptr(unsafe.Pointer(unsafe.StringData(s)))
	l, e, _ := doc.Parse(s)
	if e != api.OK || len(l) != 3 {
		t.Fatalf("Parse(%q) = %s, %d", s, shortLayout(l), e)
	}
	for _, d := range l {
		if at := uintptr(unsafe.Pointer(unsafe.StringData(d.Text))); at >= first && at < first+uintptr(len(s)) {
			t.Errorf("%q lies within the text that was read", d.Text)
		}
	}
}

// The same calls answer the same, whatever was called ahead.
func TestR2CallsKeepNothing(t *testing.T) {
	l := of("[t(k)h)")
	want, _ := plainPrint(l)
	for range 3 {
		for _, other := range []string{"(", ")", "T", "", "tbk"} {
			doc.Check(of(other))
			doc.Print(of(other))
			doc.Parse(other)
			printIs(t, l, want)
			parseIs(t, want, l)
		}
	}
}
