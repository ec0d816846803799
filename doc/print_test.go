package doc_test

import (
	"fmt"
	"runtime"
	"slices"
	"strings"
	"testing"

	"colophon/api"
	"colophon/doc"
)

func printIs(t *testing.T, l []api.Doc, want string) {
	t.Helper()
	if s, e := doc.Print(l); e != api.OK || s != want {
		t.Errorf("Print of %s= %s, %d, not %s", shortLayout(l), short(s), e, short(want))
	}
}

func printFails(t *testing.T, what string, l []api.Doc, want api.Errno) {
	t.Helper()
	if s, e := doc.Print(l); e != want || s != "" {
		t.Errorf("Print of %s = %s, %d, not the error %d", what, short(s), e, want)
	}
}

func TestP7_2TheChaptersExample(t *testing.T) {
	l := []api.Doc{{Kind: api.Text, Text: "a\\\xc3"}, {Kind: api.Break, Blanks: 1}, {Kind: api.Begin, Indent: 2, Even: true}, {Kind: api.End}}
	printIs(t, l, `text a\\\xc3`+"\n"+"break 1\n"+"begin 2 even\n"+"end\n")
}

func TestP7_2EveryKind(t *testing.T) {
	printIs(t, nil, "")
	printIs(t, []api.Doc{}, "")
	printIs(t, of("tbkhe([))"), "text a\nblank\nbreak 3\nhard\nempty\nbegin 4\nbegin 0 even\nend\nend\n")
}

func TestP7_2Numbers(t *testing.T) {
	for n := range 1001 {
		l := []api.Doc{{Kind: api.Break, Blanks: n}, {Kind: api.Begin, Indent: n}, {Kind: api.Begin, Indent: n, Even: true}, {Kind: api.End}, {Kind: api.End}}
		printIs(t, l, fmt.Sprintf("break %d\nbegin %d\nbegin %d even\nend\nend\n", n, n, n))
	}
}

func TestP7_2Texts(t *testing.T) {
	for _, c := range []struct{ text, line string }{
		{"a", `text a`},
		{"text", `text text`},
		{"a b", `text a b`},
		{"a  b", `text a  b`},
		{`\`, `text \\`},
		{`\\`, `text \\\\`},
		{`\x41`, `text \\x41`},
		{"a\nb", `text a\x0ab`},
		{"a\r\nb", `text a\x0d\x0ab`},
		{"\t", `text \x09`},
		{"\x00", `text \x00`},
		{"\x1f", `text \x1f`},
		{"!~", `text !~`},
		{"\x7f", `text \x7f`},
		{"\x80", `text \x80`},
		{"é", `text \xc3\xa9`},
		{"日", `text \xe6\x97\xa5`},
		{"\xff", `text \xff`},
		{`"'`, `text "'`},
	} {
		printIs(t, []api.Doc{{Kind: api.Text, Text: c.text}}, c.line+"\n")
	}
}

// Every byte by itself and between others, as the chapter's words have it.
func TestP7_2EveryByte(t *testing.T) {
	plain, coded := 0, 0
	for c := range 256 {
		told := fmt.Sprintf(`\x%02x`, c)
		switch {
		case c == '\\':
			told = `\\`
		case c >= 0x20 && c <= 0x7e:
			told = string(rune(c))
			plain++
		default:
			coded++
		}
		b := string([]byte{byte(c)})
		printIs(t, []api.Doc{{Kind: api.Text, Text: "a" + b + "b"}}, "text a"+told+"b\n")
		printIs(t, []api.Doc{{Kind: api.Text, Text: "\\" + b + b + "\xff"}}, `text \\`+told+told+`\xff`+"\n")
		if c != ' ' && c != '\n' {
			printIs(t, []api.Doc{{Kind: api.Text, Text: b}}, "text "+told+"\n")
		}
	}
	if plain != 94 || coded != 161 {
		t.Errorf("%d bytes stood as they are, %d by their codes", plain, coded)
	}
}

func TestP7_2EveryPairOfBytes(t *testing.T) {
	for c := range 256 * 256 {
		l := []api.Doc{{Kind: api.Text, Text: "a" + string([]byte{byte(c >> 8), byte(c)}) + "a"}}
		holdLayout(t, l)
	}
}

func TestP7_2ChecksErrors(t *testing.T) {
	for letters := range pieces {
		good := strings.ContainsRune("tbkhe", letters)
		if !good {
			printFails(t, fmt.Sprintf("%q", letters), of(string(letters)), api.ErrDocForm)
		}
		printFails(t, fmt.Sprintf("%q and an End", letters), of(string(letters)+"))"), api.ErrDocForm)
	}
	printFails(t, "a Text of 65536 bytes", []api.Doc{{Kind: api.Text, Text: strings.Repeat("a", 65536)}}, api.ErrDocForm)
	printFails(t, "Kind 255", []api.Doc{{Kind: 255}}, api.ErrDocForm)
	printFails(t, "Kind 8", []api.Doc{{Kind: 8}}, api.ErrDocForm)
}

// filled is so many times the same pieces, and a Text behind them, so that the layout's text has just so many bytes.
func filled(t *testing.T, l []api.Doc, times, size int) []api.Doc {
	t.Helper()
	for _, d := range l {
		size -= times * (len(plainLine(d)) + 1)
	}
	if size < len("text a\n") || size > len("text \n")+65535 {
		t.Fatalf("%d times %s: %d bytes are left", times, shortLayout(l), size)
	}
	pad := api.Doc{Kind: api.Text, Text: strings.Repeat("a", size-len("text \n"))}
	return append(slices.Repeat(l, times), pad)
}

func TestP7_2LongestText(t *testing.T) {
	long := func(c string, n int) []api.Doc { return []api.Doc{{Kind: api.Text, Text: strings.Repeat(c, n)}} }
	for _, c := range []struct {
		l     []api.Doc
		times int
	}{
		{of("t"), 599185},
		{of("b"), 699049},
		{of("h"), 838859},
		{of("()"), 349524},
		{of("[tbkhe)"), 85597},
		{long("a", 65535), 63},
		{long("\\", 65000), 32},
		{long("\x00", 65000), 16},
		{long("é", 32500), 16},
	} {
		l := filled(t, c.l, c.times, 4194304)
		s, e := doc.Print(l)
		if want, _ := plainPrint(l); e != api.OK || len(s) != 4194304 || s != want {
			t.Errorf("Print of %s= %s, %d", shortLayout(l), short(s), e)
		}
		more := filled(t, c.l, c.times, 4194305)
		name := shortLayout(l)
		printFails(t, name+", a byte more", more, api.ErrLong)
		printFails(t, name+", pieces more", append(l, of("tbkhe([))")...), api.ErrLong)
		printFails(t, name+", a Begin more", append(l, of("(")...), api.ErrDocForm)
		printFails(t, name+", a wrong piece more", append(l, of("T")...), api.ErrDocForm)
	}
}

func TestP7_2MaxDocs(t *testing.T) {
	l := slices.Repeat(of("b"), 2097153)
	printFails(t, "2097152 pieces (too long a text)", l[:2097152], api.ErrLong)
	printFails(t, "2097153 pieces", l, api.ErrLong)
	l[2097151] = of("T")[0]
	printFails(t, "2097152 pieces, the last wrong", l[:2097152], api.ErrDocForm)
	printFails(t, "2097153 pieces, the last but one wrong", l, api.ErrLong)
}

// Pieces that share one long text are many bytes: that it is too long must be told ahead of their being written.
func TestP7_2FarTooLong(t *testing.T) {
	l := slices.Repeat([]api.Doc{{Kind: api.Text, Text: strings.Repeat("\xff", 65535)}}, 30000)
	var before, after runtime.MemStats
	runtime.ReadMemStats(&before)
	printFails(t, "30000 long texts", l, api.ErrLong)
	runtime.ReadMemStats(&after)
	if taken := after.TotalAlloc - before.TotalAlloc; taken > 64<<20 {
		t.Errorf("%d bytes were taken", taken)
	}
}
