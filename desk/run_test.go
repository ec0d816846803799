package desk_test

import (
	"strconv"
	"strings"
	"testing"

	"colophon/api"
)

func TestP22_1ExamplesOfTheWhole(t *testing.T) {
	l := examples()
	if len(l) != 10 {
		t.Fatal(len(l))
	}
	for _, x := range l {
		t.Run(x.about, func(t *testing.T) { tells(t, x.script, x.told) })
	}
}

func TestP22_1ExamplesOfTheChapter(t *testing.T) {
	tells(t, "", "")
	for _, script := range []string{"format", "width 0\n", "width 4097\n", "drive 0\n", "cut 01\n", "format 1\n", "sing\n"} {
		refuses(t, script, api.ErrDeskLine, 1)
	}
	refuses(t, "source\nx\n", api.ErrDeskLine, 3)
	tells(t, "check\n", "> check\nerror 121 at 1:1\n")
}

// Lines that are empty, or begin with #, say nothing, wherever they stand; in a block they are its text.
func TestP22_1LinesThatSayNothing(t *testing.T) {
	for _, script := range []string{"\n", "\n\n\n", "#\n", "# x\n", "#done\n", "##\n", "#format\n", "#\xff\x00\r \n", "#" + strings.Repeat("x", 20000) + "\n", "\n#\n\n# sing\n"} {
		tells(t, script, "")
		tells(t, script+"keep\n"+script+"keep\n"+script, "> keep\nkept 0\n> keep\nkept 0\n")
		tells(t, script+of(script)+script+"keep\n", "> source\nok\n> keep\nkept "+strconv.Itoa(len(script))+"\n")
	}
}

// A desk is at first as the chapter says, each time: no source, a width of 72, none that is kept.
func TestP22_1AtFirst(t *testing.T) {
	tells(t, "keep\n", "> keep\nkept 0\n")
	tells(t, "same\n", "> same\nnone\n")
	fits := strings.Repeat("b", 72-len("  a := "))
	text := "program p;begin a:=" + fits + " end.\n"
	does(t, text, "format", "  program p;", "  begin", "    a := "+fits, "  end.")
	text = "program p;begin a:=" + fits + "b end.\n"
	does(t, text, "format", "  program p;", "  begin", "    a :=", "      "+fits+"b", "  end.")
}

// What is told of a line: it, and then its lines, each with an end.
func TestP22_1EachLineIsToldWithItsLine(t *testing.T) {
	tells(t, "# a\n\nwidth 10\n\n#b\nkeep\nbatch 16\ncut 0\nsame\n", "> width 10\nok\n> keep\nkept 0\n> batch 16\n  a wrong\n  b wrong\n> cut 0\nok\n> same\nerror 121 at 1:1\n")
}
