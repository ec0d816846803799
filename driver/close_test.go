package driver_test

import (
	"strings"
	"testing"

	"colophon/api"
	"colophon/samples"
)

// ends holds what Close tells of a source, in one chunk and byte by byte, and that it is broken then.
func ends(t *testing.T, c wrong) {
	t.Helper()
	for _, size := range []int{1, 2, 3, max(1, len(c.source))} {
		for _, check := range []bool{false, true} {
			d := made(t, api.Options{Width: 72, Check: check})
			text := ""
			for _, s := range byBytes(c.source, size) {
				got := fed(d, s)
				if text += got.text; got.wrong != "" {
					t.Errorf("%s by %d: %s ahead of Close", samples.Short(c.source), size, got)
				}
			}
			got := closed(d)
			if got.text = text + got.text; !check && got != refused(c.text, c.want) || check && got != refused("", c.want) {
				t.Errorf("%s by %d: %s, not %s %s", samples.Short(c.source), size, got, samples.Short(c.text), c.want)
			}
			stays(t, d, c.want)
		}
	}
}

// The end ahead of its time is told with the place behind the last byte, whatever stands there.
func TestP17_3TheEnd(t *testing.T) {
	for _, c := range []wrong{
		{"", "", "ErrParseEnd at 0 1:1"},
		{" ", "", "ErrParseEnd at 1 1:2"},
		{"\n", "", "ErrParseEnd at 1 2:1"},
		{"\r\n\t ", "", "ErrParseEnd at 4 2:3"},
		{"{\u65e5}", "{\u65e5}", "ErrParseEnd at 5 1:4"},
		{"//\u00e9", "//\u00e9", "ErrParseEnd at 4 1:4"},
		{"program", "program", "ErrParseEnd at 7 1:8"},
		{head + "end", headTold + "\nend", "ErrParseEnd at 24 1:25"},
		{head + "end\n", headTold + "\nend", "ErrParseEnd at 25 2:1"},
		{head + "end\n\n  ", headTold + "\nend", "ErrParseEnd at 28 3:3"},
		{"program \u65e5\u672c\n;begin \u00e9", "program \u65e5\u672c;\nbegin\n", "ErrParseEnd at 24 2:9"},
		{"program p//\u65e5\xff\xc3\u00e9", "program p //\u65e5\xff\xc3\u00e9", "ErrParseEnd at 18 1:16"},
		{"program p//\u65e5\xe6\x97", "program p //\u65e5\xe6\x97", "ErrParseEnd at 16 1:15"},
		{"program p//\xf0\x90\x90", "program p //\xf0\x90\x90", "ErrParseEnd at 14 1:15"},
		{"program p//\xf0\x90\x90\n", "program p //\xf0\x90\x90", "ErrParseEnd at 15 2:1"},
		{"program p//\U00010400\xed\xa0\x80\xc3", "program p //\U00010400\xed\xa0\x80\xc3", "ErrParseEnd at 19 1:17"},
	} {
		ends(t, c)
	}
	great := strings.Repeat("{\u65e5\n\U00010400\xf0}", 1000)
	for _, size := range []int{1, 2, 3, 5, 7, 11, 4096, 100000} {
		if got := together(t, api.Options{Width: 72}, byBytes(great+"\u65e5", size)...); got.wrong != "ErrParseTok at 11000 1001:4" {
			t.Error(got)
		}
		if got := together(t, api.Options{Width: 72}, byBytes(great+"//\u65e5\xe6\x97", size)...); got.wrong != "ErrParseEnd at 11007 1001:9" {
			t.Error(got)
		}
	}
}

// Tokens that only Close makes sure are taken, and then what the lexer met.
func TestP17_3TheLastTokens(t *testing.T) {
	for _, c := range []wrong{
		{";", "", "ErrParseTok at 0 1:1"},
		{head + "end.;", headTold + "\nend.", "ErrParseTok at 25 1:26"},
		{head + "end.\n:", headTold + "\nend.", "ErrParseTok at 26 2:1"},
		{"program p;\u65e5\xe6\x97", "program p;", "ErrParseTok at 10 1:11"},
		{"program p//\u65e5\xff\xc3\u00e9\n\u00e9\u00e8", "program p //\u65e5\xff\xc3\u00e9", "ErrParseTok at 19 2:1"},
		{"program\xc3", "program", "ErrScanByte at 7 1:8"},
		{"program \u65e5\xe6\x97", "program \u65e5", "ErrScanByte at 11 1:10"},
		{"skip\xc3", "", "ErrParseTok at 0 1:1"},
		{"\xc3", "", "ErrScanByte at 0 1:1"},
		{"\n\xe6\x97", "", "ErrScanByte at 1 2:1"},
		{head + "{", headTold, "ErrScanOpen at 21 1:22"},
		{head + "\n{\n\n", headTold, "ErrScanOpen at 22 2:1"},
		{head + ";x:=\"a", headTold + ";\n", "ErrScanOpen at 25 1:26"},
		{head + ";x:='", headTold + ";\n", "ErrScanOpen at 25 1:26"},
		{head + ";x:='a", headTold + ";\n", "ErrScanOpen at 25 1:26"},
		{head + ";x:='\xc3", headTold + ";\n", "ErrScanOpen at 25 1:26"},
	} {
		ends(t, c)
	}
	source, text := deep(498)
	ends(t, wrong{source + "a", text, "ErrParseDeep at 3004 1:3005"})
}

// What was wrong in a Feed is told by Close, and not what Close would find.
func TestP17_3CloseOfABrokenOne(t *testing.T) {
	for _, source := range []string{"program p;begin skip;; {", "program p;begin skip;; \"", "program p;begin skip;; "} {
		plays(t, 72, []string{source}, refused(headTold+";", "ErrParseTok at 21 1:22"), refused("", "ErrParseTok at 21 1:22"), refused("", "ErrParseTok at 21 1:22"))
	}
}

// The rest: what the last token ends, and what is held till nothing can come.
func TestP17_3TheRest(t *testing.T) {
	for _, c := range []struct{ source, fed, rest string }{
		{head + "end.", headTold + "\nend", ".\n"},
		{head + "end. ", headTold + "\nend.", "\n"},
		{head + "end.//c", headTold + "\nend.", " //c\n"},
		{head + "end.//c\n", headTold + "\nend. //c", "\n"},
		{head + "end.//\xe6\x97", headTold + "\nend.", " //\xe6\x97\n"},
		{head + "end.\n\n{c}", headTold + "\nend.\n\n{c}", "\n"},
		{head + "end.\n\n{c}\n\n//", headTold + "\nend.\n\n{c}", "\n\n//\n"},
	} {
		plays(t, 72, []string{c.source}, told(c.fed), told(c.rest), refused("", "ErrDone at 0 0:0"))
	}
}

// sameAs holds whether Close tells that a source is formatted already.
func sameAs(t *testing.T, width int, source string, want bool) {
	t.Helper()
	for _, size := range []int{1, 3, 10, max(1, len(source))} {
		for _, check := range []bool{false, true} {
			if got := together(t, api.Options{Width: width, Check: check}, byBytes(source, size)...); got.wrong != "" || got.same != want {
				t.Fatalf("%q at %d by %d: %s, not %v", source, width, size, got, want)
			}
		}
	}
}

func TestP17_3TheSame(t *testing.T) {
	const done = "program p;\nbegin\n  skip\nend.\n"
	sameAs(t, 72, done, true)
	for _, source := range []string{
		"program p;\nbegin\n  skip\nend.", done + "\n", done + " ", " " + done, "\n" + done, "program p;\nbegin\n  skip \nend.\n", "program p;\nbegin\n   skip\nend.\n", "program p;\nbegin\n skip\nend.\n",
		"program p;\nbegin\n\tskip\nend.\n", "program p;\r\nbegin\n  skip\nend.\n", "program p;\nbegin\n  skip\nend.\r\n", "program p; begin\n  skip\nend.\n", "program p;\n\nbegin\n  skip\nend.\n", "program  p;\nbegin\n  skip\nend.\n",
		"program p;\nbegin\n  skip\nend .\n", "program p ;\nbegin\n  skip\nend.\n",
	} {
		sameAs(t, 72, source, false)
	}
	sameAs(t, 12, "program p;\nbegin\n  y :=\n    f(a, b)\nend.\n", true)
	sameAs(t, 14, "program p;\nbegin\n  y :=\n    f(a, b)\nend.\n", false)
	sameAs(t, 14, "program p;\nbegin\n  y := f(a, b)\nend.\n", true)
	sameAs(t, 13, "program p;\nbegin\n  y := f(a, b)\nend.\n", false)
	sameAs(t, 72, "program p; // \xff\u65e5\xe6\nbegin\n  {\xc3 \n\n } a := '\xff' + \"\xe6\x97\"\nend. //\xc3\n", false)
	sameAs(t, 72, "program p; // \xff\u65e5\xe6\nbegin\n  {\xc3 \n\n }\n  a := '\xff' + \"\xe6\x97\"\nend. //\xc3\n", true)
}

// Formatted sources, with one byte more and with one less: each is the same just if format tells it again.
func TestP17_3OneByteMoreOrLess(t *testing.T) {
	t.Parallel()
	met := map[bool]int{}
	look := func(width int, source string) {
		want := formatted(width, source)
		for _, size := range []int{1, 1000} {
			got := together(t, api.Options{Width: width}, byBytes(source, size)...)
			if got.same != want.same || got.wrong != want.wrong || want.wrong == "" && got.text != want.text {
				t.Fatalf("%q by %d: %s, not %s", source, size, got, want)
			}
		}
		if want.wrong == "" {
			met[want.same]++
		}
	}
	for _, x := range samples.Examples() {
		for at := range len(x.Want) + 1 {
			for _, part := range []string{" ", "\n", "a", "{c}", "\n\n", ""} {
				look(x.Width, x.Want[:at]+part+x.Want[at:])
			}
			if at < len(x.Want) {
				look(x.Width, x.Want[:at]+x.Want[at+1:])
			}
		}
	}
	if met[false] < 1000 || met[true] < 1000 {
		t.Error(met)
	}
}
