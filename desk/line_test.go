package desk_test

import (
	"strings"
	"testing"

	"colophon/api"
)

// wrongLines are such as may not be.
func wrongLines() []string {
	return []string{
		// Words that are none.
		"sing", "Format", "FORMAT", "formats", "forma", "done", "Done", "error 120 at 1:1", "ok", "> format", "text a", "0", "5", "\u65e5", "\xff", "\x00", "format#", "format\x00",
		// Words that take no N, with one.
		"source 1", "add 0", "format 1", "check 72", "tokens 1", "layout 0", "notes 9999999", "strip 1", "take 1", "report 1", "keep 1", "same 2", "source done", "done 1",
		// Words that need one, without.
		"cut", "width", "drive", "batch", "cut x", "width wide", "drive done", "batch #",
		// One that is out of its range.
		"width 0", "width 4097", "width 9999999", "drive 0", "batch 0", "batch 17", "batch 4096", "cut 10000000", "drive 10000000",
		// One of more digits, which might be right in fewer bits.
		"cut 12345678", "width 00000072", "drive 99999999", "batch 4294967297", "cut 18446744073709551617", "cut 9223372036854775808", "cut 99999999999999999999999999",
		// One with a 0 ahead.
		"cut 01", "cut 00", "cut 0000000", "width 072", "drive 007", "batch 02",
		// One in no decimal digits.
		"cut -0", "cut -1", "cut +1", "cut 1x", "cut x1", "cut 0x1", "cut 1_0", "cut 1e1", "cut 1.0", "cut .1", "cut 1\u0661", "cut \u0661", "cut \uff11", "cut a", "cut \xff", "width 1\x00",
		// Blanks where none may be, and more than one.
		" ", "  ", " format", "format ", "format  ", "cut ", "cut  ", "cut  1", " cut 1", "cut 1 ", "cut 1 1", "width 1 2", " # x", " done", "source ", "add ",
		// What is no such blank.
		"\t", "\r", "format\r", "cut\t1", "cut 1\t", "cut 1\r", "cut\u00a01", "cut1", "cut,1", "format\v", "format\f",
	}
}

// rightLines are such as may be: each word, with the least and the greatest N that it takes. Blocks stand behind theirs.
func rightLines() []string {
	return []string{
		"source\ndone", "source\nsing\n\ndone", "add\ndone", "add\nx\ndone", "cut 0", "cut 1", "cut 9999999", "width 1", "width 4096", "format", "drive 1", "drive 9999999", "check", "tokens", "layout", "notes",
		"strip", "take", "report", "keep", "same", "batch 1", "batch 16", "", "#", "# x", "#done",
	}
}

func TestP22_1RightLines(t *testing.T) {
	all := ""
	for _, line := range rightLines() {
		got := told(t, line+"\n")
		first, _, _ := strings.Cut(line, "\n")
		if silent := first == "" || first[0] == '#'; silent != (got == "") || !silent && !strings.HasPrefix(got, "> "+first+"\n") {
			t.Errorf("%q: %q", line, got)
		}
		all += line + "\n"
		told(t, all)
	}
}

// Wherever a line stands that may not be: nothing is done of what stands ahead, and nothing is told.
func TestP22_1WrongLines(t *testing.T) {
	ahead := of(source) + "format\n#\n\n"
	for _, line := range wrongLines() {
		refuses(t, line+"\n", api.ErrDeskLine, 1)
		refuses(t, line+"\nformat\n", api.ErrDeskLine, 1)
		refuses(t, "format\n"+line+"\n", api.ErrDeskLine, 2)
		refuses(t, ahead+line+"\n", api.ErrDeskLine, 7)
		refuses(t, ahead+line+"\n"+ahead, api.ErrDeskLine, 7)
		if line != "done" {
			tells(t, of(line+"\n"), "> source\nok\n")
		}
	}
}

// Of two lines that may not be, the first one is told.
func TestP22_1TheFirstWrongLine(t *testing.T) {
	l := wrongLines()
	for i, line := range l {
		other := l[(i+7)%len(l)]
		refuses(t, line+"\n"+other+"\n", api.ErrDeskLine, 1)
		refuses(t, "keep\n"+line+"\n"+other, api.ErrDeskLine, 2)
		refuses(t, "\n#\n"+line+"\nsource\n"+other+"\n", api.ErrDeskLine, 3)
		refuses(t, of("# "+other+"\n")+line+"\n"+strings.Repeat("\n", 1000), api.ErrDeskLine, 4)
	}
}

// A last line without a line feed may not be, whatever it says.
func TestP22_1NoLineFeed(t *testing.T) {
	for _, line := range append(rightLines(), wrongLines()...) {
		if line == "" || strings.Contains(line, "\n") {
			continue
		}
		for ahead, at := range map[string]int{"": 1, "\n": 2, "keep\n": 2, of(source) + "format\n": 5} {
			refuses(t, ahead+line, api.ErrDeskLine, at)
		}
		// In a block it may not be, either, be it the block's end.
		for ahead, at := range map[string]int{"source\n": 2, "add\n": 2, "source\nx\n": 3, "keep\n" + of("x\n") + "add\n\n\n": 8} {
			refuses(t, ahead+line, api.ErrDeskLine, at)
		}
	}
	refuses(t, "source", api.ErrDeskLine, 1)
	refuses(t, "add", api.ErrDeskLine, 1)
	refuses(t, "source\ndone", api.ErrDeskLine, 2)
	refuses(t, "source\n\ndone", api.ErrDeskLine, 3)
}

// A block without done is told by one more than there are lines.
func TestP22_1NoDone(t *testing.T) {
	for _, word := range []string{"source", "add"} {
		refuses(t, word+"\n", api.ErrDeskLine, 2)
		refuses(t, word+"\nx\n", api.ErrDeskLine, 3)
		refuses(t, word+"\n\n", api.ErrDeskLine, 3)
		refuses(t, word+"\n\n\n\n", api.ErrDeskLine, 5)
		refuses(t, "format\n"+word+"\nsing\nformat\n", api.ErrDeskLine, 5)
		refuses(t, of(source)+word+"\n"+source, api.ErrDeskLine, 6)
		for _, line := range []string{"done ", " done", "Done", "DONE", "#done", "done\r", "done\x00", "done 1", "\xffdone", "donedone", "don"} {
			refuses(t, word+"\n"+line+"\n", api.ErrDeskLine, 3)
			refuses(t, word+"\n"+line+"\nformat\n\n", api.ErrDeskLine, 5)
			tells(t, word+"\n"+line+"\ndone\n", "> "+word+"\nok\n")
		}
	}
	// One that may not be goes ahead.
	refuses(t, "sing\nsource\n", api.ErrDeskLine, 1)
	refuses(t, of("")+"done\nsource\n", api.ErrDeskLine, 3)
}

// As many lines as may be, and a 1001st one, whatever they say, in a block too.
func TestP22_1ManyLines(t *testing.T) {
	for _, line := range rightLines() {
		n := 1000 / feeds(line+"\n")
		many := strings.Repeat(line+"\n", n) + strings.Repeat("\n", 1000-n*feeds(line+"\n"))
		told(t, many)
		refuses(t, many+"\n", api.ErrDeskLine, 1001)
		refuses(t, many+"#\nformat\n", api.ErrDeskLine, 1001)
		refuses(t, many+"sing\n", api.ErrDeskLine, 1001)
		refuses(t, many+"format", api.ErrDeskLine, 1001)
		refuses(t, many+"source\n", api.ErrDeskLine, 1001)
	}
	tells(t, strings.Repeat("keep\n", 1000), strings.Repeat("> keep\nkept 0\n", 1000))
	tells(t, of(strings.Repeat("\n", 998)), "> source\nok\n")
	tells(t, of(strings.Repeat("\n", 997))+"keep\n", "> source\nok\n> keep\nkept 997\n")
	refuses(t, of(strings.Repeat("\n", 998))+"keep\n", api.ErrDeskLine, 1001)
	refuses(t, of(strings.Repeat("\n", 999)), api.ErrDeskLine, 1001)
	refuses(t, of(strings.Repeat("\n", 5000)), api.ErrDeskLine, 1001)
	refuses(t, "source\n"+strings.Repeat("\n", 998), api.ErrDeskLine, 1000)
	refuses(t, "source\n"+strings.Repeat("\n", 999), api.ErrDeskLine, 1001)
	refuses(t, "source\n"+strings.Repeat("\n", 2000), api.ErrDeskLine, 1001)
	refuses(t, strings.Repeat("\n", 999)+"source\n", api.ErrDeskLine, 1001)
	refuses(t, strings.Repeat("\n", 998)+"source\n"+"done\n"+"\n", api.ErrDeskLine, 1001)
	tells(t, strings.Repeat("\n", 998)+"source\n"+"done\n", "> source\nok\n")
	refuses(t, strings.Repeat("\n", 65536), api.ErrDeskLine, 1001)
}

// One that may not be ahead of the 1001st line, and behind it; and the last line of many.
func TestP22_1WrongLinesAmongMany(t *testing.T) {
	many := func(n int) string { return strings.Repeat("\n", n) }
	refuses(t, many(4)+"sing\n"+many(2000), api.ErrDeskLine, 5)
	refuses(t, many(999)+"sing\n", api.ErrDeskLine, 1000)
	refuses(t, many(999)+"sing\n"+many(5), api.ErrDeskLine, 1000)
	refuses(t, many(1000)+"sing\n", api.ErrDeskLine, 1001)
	refuses(t, many(1001)+"sing\n", api.ErrDeskLine, 1001)
	refuses(t, many(999)+"format", api.ErrDeskLine, 1000)
	refuses(t, many(1000)+"format", api.ErrDeskLine, 1001)
	refuses(t, many(1001)+"format", api.ErrDeskLine, 1001)
	refuses(t, "source\n"+many(998)+"done", api.ErrDeskLine, 1000)
	refuses(t, "source\n"+many(999)+"done", api.ErrDeskLine, 1001)
}

// A text that is too long, whatever stands in it; and one that is as long as may be.
func TestP22_1LongTexts(t *testing.T) {
	for _, first := range []string{"", "keep\n", "sing\n", "source\n", "format", "#"} {
		for _, more := range []string{"\n", "x", "\xff", " "} {
			for _, size := range []int{65537, 65538, 70000, 1 << 17, 1 << 20} {
				refuses(t, first+strings.Repeat(more, size-len(first)), api.ErrLong, 0)
			}
		}
	}
	x := strings.Repeat("x", 65536)
	tells(t, "#"+x[:65534]+"\n", "")
	refuses(t, "#"+x[:65535]+"\n", api.ErrLong, 0)
	refuses(t, x, api.ErrDeskLine, 1)
	refuses(t, "#"+x[:65535], api.ErrDeskLine, 1)
	tells(t, "keep\n#"+x[:65529]+"\n", "> keep\nkept 0\n")
	block := len(of("\n") + "keep\n")
	tells(t, of(x[block:]+"\n")+"keep\n", "> source\nok\n> keep\nkept 65519\n")
	refuses(t, of(x[block-1:]+"\n")+"keep\n", api.ErrLong, 0)
}
