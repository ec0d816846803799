package doc_test

import (
	"fmt"
	"slices"
	"strconv"
	"strings"
	"testing"

	"colophon/api"
	"colophon/doc"
	"colophon/samples"
)

func parseIs(t *testing.T, s string, want []api.Doc) {
	t.Helper()
	if l, e, line := doc.Parse(s); e != api.OK || line != 0 || !slices.Equal(l, want) {
		t.Errorf("Parse(%s) = %s, %d, %d, not %s", short(s), shortLayout(l), e, line, shortLayout(want))
	}
}

func parseFails(t *testing.T, s string, want api.Errno, wantLine int) {
	t.Helper()
	if l, e, line := doc.Parse(s); e != want || line != wantLine || len(l) != 0 {
		t.Errorf("Parse(%s) = %s, %d, %d, not the error %d, %d", short(s), shortLayout(l), e, line, want, wantLine)
	}
}

func TestP7_3TheChaptersExamples(t *testing.T) {
	parseFails(t, "end\n", api.ErrDocForm, 1)
	parseFails(t, "begin 1\n", api.ErrDocForm, 2)
	for _, s := range []string{"blank", "break 01\n", "break 1001\n", "hard \n", "text \n", "text \\x41\n", "text \\x0A\n"} {
		parseFails(t, s, api.ErrDocText, 1)
	}
	parseIs(t, "", nil)
}

func TestP7_3EveryKind(t *testing.T) {
	parseIs(t, "text a\nblank\nbreak 3\nhard\nempty\nbegin 4\nbegin 0 even\nend\nend\n", of("tbkhe([))"))
	parseIs(t, `text a\\\xc3`+"\n", []api.Doc{{Kind: api.Text, Text: "a\\\xc3"}})
	parseIs(t, "begin 1000 even\nbreak 1000\nend\n", []api.Doc{{Kind: api.Begin, Indent: 1000, Even: true}, {Kind: api.Break, Blanks: 1000}, {Kind: api.End}})
}

func TestP7_3Numbers(t *testing.T) {
	for n := range 1001 {
		parseIs(t, fmt.Sprintf("break %d\nbegin %d\nbegin %d even\nend\nend\n", n, n, n), []api.Doc{
			{Kind: api.Break, Blanks: n}, {Kind: api.Begin, Indent: n}, {Kind: api.Begin, Indent: n, Even: true}, {Kind: api.End}, {Kind: api.End},
		})
	}
	for _, n := range []string{
		"", " ", "-", "+", "-0", "+0", "-1", "+1", "00", "01", "000", "0001", "01000", "1001", "1010", "2000", "9999", "10000",
		"65536", "4294967296", "4294967297", "18446744073709551616", "18446744073709551617", "99999999999999999999999999",
		"1 ", " 1", "1 1", "1.", "1.0", "1,", "1e1", "1_0", "0x1", "0b1", "a", "x", "1a", "a1", "\u0661", "\uff11", "1\x00", "\x001",
		"1\r", "1\t", "1\v", "\xff", "1\xff", "one", "0 ", "Inf", "nan", "even", "''", "\"1\"", "\\x31",
	} {
		for _, line := range []string{"break " + n, "begin " + n, "begin " + n + " even"} {
			parseFails(t, line+"\n", api.ErrDocText, 1)
			parseFails(t, "begin 0\n"+line+"\nend\nend\n", api.ErrDocText, 2)
		}
	}
	parseFails(t, "break 1 even\n", api.ErrDocText, 1)
	parseFails(t, "begin 1 even even\nend\n", api.ErrDocText, 1)
	parseFails(t, "begin 1  even\nend\n", api.ErrDocText, 1)
	parseFails(t, "begin 1even\nend\n", api.ErrDocText, 1)
	parseFails(t, "begin 1 Even\nend\n", api.ErrDocText, 1)
	parseFails(t, "begin even\nend\n", api.ErrDocText, 1)
	parseFails(t, "begin even 1\nend\n", api.ErrDocText, 1)
	parseFails(t, "begin 1 odd\nend\n", api.ErrDocText, 1)
}

func TestP7_3WordsThatAreNone(t *testing.T) {
	for _, line := range []string{
		"", " ", "t", "tex", "texts", "text", "Text a", "TEXT a", " text a", "text\ta", "texta", "text\x00a",
		"blanks", "blan", "Blank", " blank", "blank ", "blank 1", "blank even", "blank\r", "blank\x00",
		"break", "break ", "breaks 1", "brea 1", "Break 1", "break\t1", "break1",
		"hard ", "hards", "Hard", "hard 0", "hardhard", "hard hard",
		"empty ", "Empty", "empt", "empty 0", "empty empty",
		"begin", "begin ", "Begin 1", "begins 1", "begin1",
		"end ", "End", "ends", "en", "end 0", "end end", "nd",
		"0", "1", "\\", "\\x0a", "\xef\xbb\xbfblank", "\r", "\t", "even", "blank // x", "none", "token",
	} {
		parseFails(t, line+"\n", api.ErrDocText, 1)
		parseFails(t, "begin 1\n"+line+"\nend\n", api.ErrDocText, 2)
		if line != "" {
			parseFails(t, line, api.ErrDocText, 1)
			parseFails(t, "hard\nhard\n"+line, api.ErrDocText, 3)
		}
	}
}

// An escape of a byte is right, if its digits are small and the byte does not stand as it is.
func TestP7_3EveryEscape(t *testing.T) {
	digits := "0123456789abcdefABCDEF"
	met := 0
	for _, high := range digits {
		for _, low := range digits {
			hex := string(high) + string(low)
			code, err := strconv.ParseUint(hex, 16, 8)
			if err != nil {
				t.Fatal(err)
			}
			s := `text a\x` + hex + "b\n"
			if hex != strings.ToLower(hex) || code >= 0x20 && code <= 0x7e {
				parseFails(t, s, api.ErrDocText, 1)
				continue
			}
			met++
			parseIs(t, s, []api.Doc{{Kind: api.Text, Text: "a" + string([]byte{byte(code)}) + "b"}})
		}
	}
	if met != 161 {
		t.Errorf("%d escapes were right", met)
	}
}

func TestP7_3EveryByteAsItIs(t *testing.T) {
	for c := range 256 {
		b := string([]byte{byte(c)})
		s := "text a" + b + "b\n"
		switch {
		case c == '\\':
			parseFails(t, s, api.ErrDocText, 1)
			parseIs(t, "text a\\\\b\n", []api.Doc{{Kind: api.Text, Text: "a\\b"}})
		case c >= 0x20 && c <= 0x7e:
			parseIs(t, s, []api.Doc{{Kind: api.Text, Text: "a" + b + "b"}})
		case c == '\n':
			parseFails(t, s, api.ErrDocText, 2)
		default:
			parseFails(t, s, api.ErrDocText, 1)
		}
		if c != '\\' && c != 'x' {
			parseFails(t, "text \\"+b+"41\n", api.ErrDocText, 1)
			parseFails(t, "text \\"+b+"0a\n", api.ErrDocText, 1)
		}
	}
}

func TestP7_3Escapes(t *testing.T) {
	for _, c := range []struct{ told, text string }{
		{`\\`, `\`},
		{`\\\\`, `\\`},
		{`\\x41`, `\x41`},
		{`\\\xff`, "\\\xff"},
		{`\xff\\`, "\xff\\"},
		{`\xff0`, "\xff0"},
		{`\x00\x00`, "\x00\x00"},
		{`a\x0ab`, "a\nb"},
		{`\x0d`, "\r"},
		{`a \\ b`, `a \ b`},
		{`text a`, `text a`},
		{`x41`, `x41`},
		{`a  b`, `a  b`},
	} {
		parseIs(t, "text "+c.told+"\n", []api.Doc{{Kind: api.Text, Text: c.text}})
	}
	for _, told := range []string{
		`\`, `a\`, `\\\`, `\a`, `\n`, `\t`, `\"`, `\0`, `\ `, `\x`, `\xf`, `\xg0`, `\x0g`, `\xFF`, `\xfF`, `\xFf`, `\Xff`, `\X0a`, `\u0041`,
		`\x20`, `\x5c`, `\x41`, `\x7e`, `\x2`, `\x-1`, `\x+1`, `\x 1`, `\x1 `, `\\\x41`, `\xff\`, `\xff\x`, `\xff\xf`, `\x\\`, `\xf\\`, `\377`,
		`a\x0a`, `\x0aa`, `\x0a`, ` a`, `a `, ` `, `  `, "é", "\xff", "\t", "\x00", "a\r", "\x7f", "a\x1fb",
	} {
		parseFails(t, "text "+told+"\n", api.ErrDocText, 1)
		parseFails(t, "text a\ntext "+told+"\ntext b\n", api.ErrDocText, 2)
	}
}

func TestP7_3LongTexts(t *testing.T) {
	for _, c := range []struct{ told, text string }{{"a", "a"}, {`\\`, `\`}, {`\xff`, "\xff"}} {
		for _, n := range []int{65534, 65535} {
			parseIs(t, "text "+strings.Repeat(c.told, n)+"\n", []api.Doc{{Kind: api.Text, Text: strings.Repeat(c.text, n)}})
		}
		parseFails(t, "hard\ntext "+strings.Repeat(c.told, 65536)+"\n", api.ErrDocText, 2)
	}
	parseIs(t, "text a"+strings.Repeat(" ", 65533)+"b\n", []api.Doc{{Kind: api.Text, Text: "a" + strings.Repeat(" ", 65533) + "b"}})
	parseIs(t, "text a"+strings.Repeat(`\x0a`, 65533)+"b\n", []api.Doc{{Kind: api.Text, Text: "a" + strings.Repeat("\n", 65533) + "b"}})
}

// Lines that are none are told ahead of a layout that may not be, wherever they stand.
func TestP7_3WhichOfSeveralFaults(t *testing.T) {
	for _, c := range []struct {
		s    string
		e    api.Errno
		line int
	}{
		{"end\nx\n", api.ErrDocText, 2},
		{"end\nblank", api.ErrDocText, 2},
		{"end\n\n", api.ErrDocText, 2},
		{"x\ny\n", api.ErrDocText, 1},
		{"\n", api.ErrDocText, 1},
		{"\n\n", api.ErrDocText, 1},
		{"hard\n\nhard\n", api.ErrDocText, 2},
		{"begin 0\nbegin 01\n", api.ErrDocText, 2},
		{"begin 0\nend\nend", api.ErrDocText, 3},
		{"end", api.ErrDocText, 1},
		{"begin 0", api.ErrDocText, 1},
		{"begin 0\nend\nend\n", api.ErrDocForm, 3},
		{"end\nend\n", api.ErrDocForm, 1},
		{"end\nbegin 0\n", api.ErrDocForm, 1},
		{"hard\nend\nbegin 0\n", api.ErrDocForm, 2},
		{"begin 0\nbegin 0\nend\n", api.ErrDocForm, 4},
		{"begin 0\nend\nbegin 0 even\nhard\n", api.ErrDocForm, 5},
		{"begin 0\nbegin 0\n", api.ErrDocForm, 3},
	} {
		parseFails(t, c.s, c.e, c.line)
	}
}

func TestP7_3LongestText(t *testing.T) {
	for _, c := range []struct {
		l     []api.Doc
		times int
	}{{of("h"), 838859}, {of("()"), 349524}, {[]api.Doc{{Kind: api.Text, Text: strings.Repeat("\x00", 65000)}}, 16}} {
		l := filled(t, c.l, c.times, 4194304)
		s, _ := plainPrint(l)
		if len(s) != 4194304 {
			t.Fatalf("a text of %d bytes", len(s))
		}
		parseIs(t, s, l)
		parseFails(t, s[:len(s)-1], api.ErrDocText, len(l))
		parseFails(t, "x"+s[1:], api.ErrDocText, 1)
		parseFails(t, s+"\n", api.ErrLong, 0)
		parseFails(t, "x"+s, api.ErrLong, 0)
		parseFails(t, s+"end\n", api.ErrLong, 0)
	}
	parseFails(t, strings.Repeat("\n", 4194304), api.ErrDocText, 1)
	parseFails(t, strings.Repeat("a", 4194304), api.ErrDocText, 1)
	parseFails(t, "break "+strings.Repeat("1", 4194297)+"\n", api.ErrDocText, 1)
	parseFails(t, "text "+strings.Repeat("\\", 4194298)+"\n", api.ErrDocText, 1)
	parseFails(t, strings.Repeat("end\n", 1048576), api.ErrDocForm, 1)
	parseFails(t, strings.Repeat("begin 0\n", 524288), api.ErrDocForm, 524289)
	parseFails(t, strings.Repeat("a", 4194305), api.ErrLong, 0)
	parseFails(t, strings.Repeat("hard\n", 900000), api.ErrLong, 0)
}

// Each line's form with one byte less, one byte other and one byte more, at each place, against the plain way.
func TestP7_3OneByteOff(t *testing.T) {
	good, bad := 0, 0
	hold := func(s string) {
		if holdText(t, s) == api.OK {
			good++
		} else {
			bad++
		}
	}
	for _, line := range []string{
		"text a b\n", "text \\\\\n", "text \\xc3\\x0a\\x7f\n", "text a\\x00\n", "blank\n", "break 0\n", "break 10\n", "break 1000\n", "hard\n", "empty\n",
		"begin 0\nend\n", "begin 999\nend\n", "begin 10 even\nend\n", "begin 1000 even\nend\n",
	} {
		hold(line)
		for at := range len(line) {
			hold(line[:at] + line[at+1:])
			for c := range 256 {
				b := string([]byte{byte(c)})
				hold(line[:at] + b + line[at+1:])
				hold(line[:at] + b + line[at:])
			}
		}
		for c := range 256 {
			hold(line + string([]byte{byte(c)}))
		}
	}
	if good < 1000 || bad < 10000 {
		t.Errorf("%d texts were right, %d wrong", good, bad)
	}
}

// All texts of a few parts, right and wrong, against the plain way.
func TestP7_3AllShortTexts(t *testing.T) {
	for _, c := range []struct {
		ahead, behind string
		parts         []string
		most          int
	}{
		{"", "", []string{"text", "blank", "break", "hard", "empty", "begin", "end", "even", " ", "0", "1", "a", "\\", "x", "\n"}, 4},
		{"", "", []string{"text a\n", "hard\n", "break 2\n", "begin 0 even\n", "begin 3\n", "end\n", "end", "\n", "text \n"}, 5},
		{"", "", []string{"begin 0\n", "end\n", "blank\n"}, 9},
		{"text ", "\n", []string{"\\", "x", "0", "4", "a", "f", "A", " ", "\xff"}, 5},
		{"text \\x", "\n", []string{"\\", "x", "0", "7", "8", "e", "f", "F", " "}, 4},
		{"break ", "\n", []string{"0", "1", "9", "-", "+", " ", "even", "\n"}, 5},
		{"begin ", "\nend\n", []string{"0", "1", "9", "-", " ", " even", "\n"}, 5},
	} {
		met := map[api.Errno]int{}
		for s := range samples.Texts(c.parts, c.most) {
			met[holdText(t, c.ahead+s+c.behind)]++
		}
		if met[api.OK] < 20 || met[api.ErrDocText]+met[api.ErrDocForm] < 100 {
			t.Errorf("%q %q: met %v", c.ahead, c.parts, met)
		}
	}
}
