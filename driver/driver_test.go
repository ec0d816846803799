package driver_test

import (
	"math"
	"slices"
	"strings"
	"testing"

	"colophon/api"
	"colophon/driver"
	"colophon/samples"
)

func TestP17_1WidthsThatAreNone(t *testing.T) {
	for _, width := range []int{0, 4097, -1, 4098, 1 << 16, 1<<32 + 1, math.MinInt, math.MaxInt} {
		for _, check := range []bool{false, true} {
			d, err := driver.New(api.Options{Width: width, Check: check})
			if got := samples.FaultWord(err); d != nil || got != "error 1 at 0 0:0" {
				t.Errorf("New of %d: %v, %s", width, d, got)
			}
		}
	}
}

func TestP17_1Widths(t *testing.T) {
	for _, width := range []int{1, 2, 72, 4095, 4096} {
		plays(t, width, []string{head + "end."}, told(headTold+"\nend"), told(".\n"))
	}
}

// The printer has the driver's width: what has as many columns fits, and one more does not.
func TestP17_1TheWidthIsThePrinters(t *testing.T) {
	for _, width := range []int{10, 72, 4095, 4096} {
		for more := range 3 {
			name := strings.Repeat("b", width-len("  a := ")-1+more)
			want := samples.Lines("program p;", "begin", "  a := "+name, "end.")
			if more == 2 {
				want = samples.Lines("program p;", "begin", "  a :=", "    "+name, "end.")
			}
			for _, source := range []string{"program p;begin a:=" + name + " end.", want} {
				if got := together(t, api.Options{Width: width}, source); got != (answer{text: want, same: source == want}) {
					t.Errorf("%d, %d letters: %s, not %s", width, len(name), got, samples.Short(want))
				}
			}
		}
	}
}

// The examples of the chapter.
func TestP17_2Examples(t *testing.T) {
	plays(t, 72, []string{"program", " p;begi", "n skip ", "end.\n"},
		told(""), told("program p;"), told("\nbegin\n  skip"), told("\nend."), told("\n"), refused("", "ErrDone at 0 0:0"))
	wrong := "ErrParseTok at 21 1:22"
	plays(t, 72, []string{"program p;begin skip;; ", "x"}, refused("program p;\nbegin\n  skip;", wrong), refused("", wrong), refused("", wrong))
	wrong = "ErrParseEnd at 0 1:1"
	plays(t, 72, nil, refused("", wrong), refused("", wrong))
	for _, check := range []bool{false, true} {
		d := made(t, api.Options{Width: 72, Check: check})
		closed(d)
		stays(t, d, wrong)
		d = made(t, api.Options{Width: 72, Check: check})
		fed(d, "program p;begin skip end.\n")
		closed(d)
		stays(t, d, "ErrDone at 0 0:0")
	}
}

// The examples of the whole: how many bytes each call tells, and what comes of it.
func TestP17_2ExamplesOfTheWhole(t *testing.T) {
	for _, c := range []struct {
		source string
		size   int
		told   []int
		same   bool
		wrong  string
	}{
		{"program p;\nbegin \u65e5 := \"\u00e9\" ? end.\n", 9999999, []int{17}, false, "ErrScanByte at 29 2:16"},
		{"program p;begin skip end.\n", 7, []int{0, 10, 13, 5, 1}, false, ""},
		{"program p;begin skip end.\n", 9999999, []int{28, 1}, false, ""},
		{"program p;\nbegin\n  skip\nend.\n", 9999999, []int{28, 1}, true, ""},
		{"program p;begin skip end\n", 9999999, []int{27, 0}, false, "ErrParseEnd at 25 2:1"},
		{"", 5, []int{0}, false, "ErrParseEnd at 0 1:1"},
	} {
		d := made(t, api.Options{Width: 72})
		var got []int
		last := answer{}
		for _, s := range byBytes(c.source, c.size) {
			if last = fed(d, s); last.wrong != "" {
				break
			}
			got = append(got, len(last.text))
		}
		if last.wrong == "" {
			last = closed(d)
		}
		if got = append(got, len(last.text)); !slices.Equal(got, c.told) || last.same != c.same || last.wrong != c.wrong {
			t.Errorf("%q by %d: %d, %s", c.source, c.size, got, last)
		}
	}
}

// What is formatted is told of the examples of style and of the whole, and it is the same once more.
func TestP17_3Examples(t *testing.T) {
	for _, x := range samples.Examples() {
		for _, size := range []int{1, 2, 7, 1000} {
			if got := together(t, api.Options{Width: x.Width}, byBytes(x.Source, size)...); got != told(x.Want) {
				t.Errorf("%q, %d by %d: %s", x.Source, x.Width, size, got)
			}
			if got := together(t, api.Options{Width: x.Width}, byBytes(x.Want, size)...); got != (answer{text: x.Want, same: true}) {
				t.Errorf("%q, %d by %d: %s", x.Want, x.Width, size, got)
			}
		}
	}
}

// Each token is taken as soon as it is sure, and what it lets be written is told at once.
func TestP17_2TokensInTheirOrder(t *testing.T) {
	var chunks []string
	var want []answer
	for _, c := range [][2]string{
		{"", ""}, {"\n\nprogram ", "program"}, {"p", ""}, {"//c", " p"}, {"\n", " //c"}, {"; var a", "\n;\nvar"}, {",b:", ""}, {"t;", " a, b: t"}, {"begin{d}", ";\nbegin"},
		{"if a then b", " {d}\n  if a then"}, {":=\"t\"+", "\n"}, {"cccc", "    b :=\n"}, {"(1 ", "      \"t\" +\n"}, {")", ""}, {"\nelse ", "      cccc(1)\n  else"},
		{"return end", "\n    return"}, {"\n\nend", "\n  end"}, {".", "\nend"}, {"", ""},
	} {
		chunks, want = append(chunks, c[0]), append(want, told(c[1]))
	}
	plays(t, 12, chunks, append(want, told(".\n"))...)
}

// wrong is a source, what is told ahead of what is wrong, and that.
type wrong struct{ source, text, want string }

// breaks holds what a driver tells of a source in one chunk, and that it is broken then; and the same of it byte by byte.
func breaks(t *testing.T, c wrong) {
	t.Helper()
	plays(t, 72, []string{c.source, "", "x"}, refused(c.text, c.want), refused("", c.want), refused("", c.want), refused("", c.want), refused("", c.want))
	if got := together(t, api.Options{Width: 72}, byBytes(c.source, 1)...); got != refused(c.text, c.want) {
		t.Errorf("%s byte by byte: %s, not %s %s", samples.Short(c.source), got, c.text, c.want)
	}
}

func TestP17_2AToken(t *testing.T) {
	for _, c := range []wrong{
		{"; ", "", "ErrParseTok at 0 1:1"},
		{"{c} \n\n \u65e5;", "{c}", "ErrParseTok at 7 3:2"},
		{"program program p;begin skip end.", "program", "ErrParseTok at 8 1:9"},
		{"program p;begin skip;; ", headTold + ";", "ErrParseTok at 21 1:22"},
		{head + "end.\n\"t\"", headTold + "\nend.", "ErrParseTok at 26 2:1"},
		{"program p; // \u00e9\xff\nbegin {\u65e5} end ", "program p; // \u00e9\xff\nbegin", "ErrParseTok at 30 2:11"},
		{"program p;begin a[1]:=2;\"\u65e5\" ", "program p;\nbegin\n  a[1] := 2;", "ErrParseTok at 24 1:25"},
		{"program p;begin x:=f(a,b)) ", "program p;\nbegin\n", "ErrParseTok at 25 1:26"},
		{"program p;begin if a then skip end;else ", "program p;\nbegin\n  if a then\n    skip\n  end;", "ErrParseTok at 35 1:36"},
		{"program p;begin 1 ", "program p;\nbegin", "ErrParseTok at 16 1:17"},
		{"program p;begin " + strings.Repeat("{\u65e5\xe6}\n", 1000) + "'c'", "program p;\nbegin {\u65e5\xe6}" + strings.Repeat("\n  {\u65e5\xe6}", 999), "ErrParseTok at 7016 1001:1"},
	} {
		breaks(t, c)
	}
}

// deep is a program of a statement within so many others, up to it; and what is told of it then.
func deep(times int) (source, text string) {
	text = "program p;\nbegin"
	for i := range times {
		text += "\n" + strings.Repeat("  ", i+1) + "begin"
	}
	return "program p;begin " + strings.Repeat("begin ", times), text
}

func TestP17_2ATokenThatIsTooDeep(t *testing.T) {
	source, text := deep(499)
	breaks(t, wrong{source + "begin ", text, "ErrParseDeep at 3010 1:3011"})
	source, text = deep(498)
	breaks(t, wrong{source + "a ", text, "ErrParseDeep at 3004 1:3005"})
	source, text = deep(497)
	breaks(t, wrong{source + "a:=1 ", text + "\n" + strings.Repeat("  ", 498) + "a :=", "ErrParseDeep at 3001 1:3002"})
}

func TestP17_2WhatIsNoToken(t *testing.T) {
	long := strings.Repeat("7", api.MaxTok)
	for _, c := range []wrong{
		{"?", "", "ErrScanByte at 0 1:1"},
		{head + "?", headTold, "ErrScanByte at 21 1:22"},
		{head + "\xff", headTold, "ErrScanByte at 21 1:22"},
		{"program p;\n\u65e5?", "program p;", "ErrParseTok at 11 2:1"},
		{"program\u00e9 ", "", "ErrParseTok at 0 1:1"},
		{"program \u00e9!", "program \u00e9", "ErrScanByte at 10 1:10"},
		{head + ";x:=\"a\n", headTold + ";\n", "ErrScanOpen at 25 1:26"},
		{head + ";x:=\"\u65e5\x01", headTold + ";\n", "ErrScanText at 29 1:28"},
		{head + ";x:=''", headTold + ";\n", "ErrScanText at 26 1:27"},
		{head + ";x:='ab", headTold + ";\n", "ErrScanText at 27 1:28"},
		{head + ";x:='a\n", headTold + ";\n", "ErrScanOpen at 25 1:26"},
		{head + ";x:=" + long + "7", headTold + ";\n", "ErrScanLong at 25 1:26"},
		{head + "\n\n{" + long, headTold, "ErrScanLong at 23 3:1"},
		{head + "//" + long, headTold, "ErrScanLong at 21 1:22"},
	} {
		breaks(t, c)
	}
}

// What is wrong first in the source is told, and of what stands behind it nothing, be it in the same chunk or in another.
func TestP17_2TheFirst(t *testing.T) {
	for _, c := range []wrong{
		{"program p;begin skip;; ?", headTold + ";", "ErrParseTok at 21 1:22"},
		{"program p;begin skip;;?", headTold + ";", "ErrParseTok at 21 1:22"},
		{"program p;begin skip;; \"\n", headTold + ";", "ErrParseTok at 21 1:22"},
		{"program p;begin skip;;;end.", headTold + ";", "ErrParseTok at 21 1:22"},
		{"program p;begin skip;?; end.", headTold + ";", "ErrScanByte at 21 1:22"},
		{"program p;begin skip;? ; skip end.", headTold + ";", "ErrScanByte at 21 1:22"},
		{"program p;begin skip;; skip end.", headTold + ";", "ErrParseTok at 21 1:22"},
		{"? ;", "", "ErrScanByte at 0 1:1"},
		{"; ?", "", "ErrParseTok at 0 1:1"},
	} {
		breaks(t, c)
	}
	d := made(t, api.Options{Width: 72})
	if got := fed(d, "program p;begin skip;"); got != told(headTold) {
		t.Error(got)
	}
	if got := fed(d, "?;"); got != refused(";", "ErrScanByte at 21 1:22") {
		t.Error(got)
	}
	stays(t, d, "ErrScanByte at 21 1:22")
}
