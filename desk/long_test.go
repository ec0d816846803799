package desk_test

import (
	"strconv"
	"strings"
	"testing"

	"colophon/api"
	"colophon/format"
)

// noted are lines that make a program with so many bytes in a comment the source, and format it.
func noted(bytes int) string {
	return of("program p;begin skip end.{"+strings.Repeat("x", bytes)+"}\n") + "format\n"
}

// filler is a script that tells so many bytes, and is shorter than one may be by 4000 bytes. It keeps nothing, and leaves the
// width as it was.
func filler(t *testing.T, bytes int) string {
	t.Helper()
	const many = 30000
	script := noted(many)
	again := len(told(t, "width 72\n"+script)) - len(told(t, "width 72\n"+of("")))
	bytes -= len(told(t, script))
	least := len(told(t, noted(0)))
	for bytes >= again+least {
		script += "format\n"
		bytes -= again
	}
	script += noted(bytes - least)
	if len(script) > 65536-4000 {
		t.Fatal(len(script))
	}
	return script
}

func TestFiller(t *testing.T) {
	for _, bytes := range []int{40000, 70000, 70001, 200000, api.MaxTold - 1, api.MaxTold} {
		if got := len(told(t, filler(t, bytes))); got != bytes {
			t.Errorf("%d, not %d", got, bytes)
		}
	}
	refuses(t, filler(t, api.MaxTold+1), api.ErrLong, feeds(filler(t, api.MaxTold+1)))
}

// lastLines are scripts with a line that tells something, and what of it does not stand in its first line.
func lastLines() map[string][]string {
	return map[string][]string{
		"":                                  {"format\n", "check\n", "report\n", "take\n", "same\n", "keep\n", "batch 16\n", "cut 0\n", "cut 9999999\n", "width 4096\n", "source\ndone\n", "add\nx\ndone\n", "drive 1\n", "tokens\n", "notes\n", "strip\n", "layout\n"},
		of(source + "{x}\n// y\n"):          {"format\n", "check\n", "report\n", "take\n", "same\n", "keep\n", "batch 1\n", "cut 1\n", "width 1\n", of(source), "add\ndone\n", "drive 1\n", "drive 5\n", "tokens\n", "notes\n", "strip\n", "layout\n"},
		of(formed) + "keep\nadd\n?\ndone\n": {"format\n", "check\n", "report\n", "take\n", "same\n", "keep\n", "batch 1\n", "drive 1\n", "tokens\n", "notes\n", "strip\n", "layout\n"},
	}
}

// What is told has just as many bytes as may be, or some more: then the line is told at which it came to that, be it by the
// line itself or by what it tells.
func TestP22_1TooMuchIsTold(t *testing.T) {
	t.Parallel()
	for ahead, lines := range lastLines() {
		for _, last := range lines {
			ahead := of("") + ahead
			all := len(told(t, ahead+last))
			own := all - len(told(t, ahead))
			script := filler(t, api.MaxTold-all) + ahead
			at := feeds(script) + 1
			if got := told(t, script+last); len(got) != api.MaxTold {
				t.Fatal(len(got))
			}
			refuses(t, script+last+"#\n\ncut 0\nformat\n", api.ErrLong, at+feeds(last)+2)
			for _, over := range []int{1, own - 1, own} {
				refuses(t, filler(t, api.MaxTold-all+over)+ahead+last, api.ErrLong, at)
				refuses(t, filler(t, api.MaxTold-all+over)+ahead+last+"format\n", api.ErrLong, at)
			}
			if got := run(filler(t, api.MaxTold-all+own+1) + ahead + last); got.code != api.ErrLong || got.line >= at || got.told != "" {
				t.Errorf("%q: %v, not ahead of %d", last, got, at)
			}
		}
	}
}

// A line that may not be goes ahead of all that is told.
func TestP22_1WrongLinesGoAheadOfTooMuch(t *testing.T) {
	script := filler(t, api.MaxTold+1)
	at := feeds(script)
	refuses(t, script, api.ErrLong, at)
	refuses(t, script+"sing\n", api.ErrDeskLine, at+1)
	refuses(t, script+"format", api.ErrDeskLine, at+1)
	refuses(t, script+"source\n", api.ErrDeskLine, at+2)
	refuses(t, script+strings.Repeat("\n", 1001-at), api.ErrDeskLine, 1001)
	refuses(t, strings.Repeat("#\n", 1000-at)+script, api.ErrLong, 1000)
}

// Lines that say nothing are counted, and are never the ones that are told.
func TestP22_1TooMuchBehindLinesThatSayNothing(t *testing.T) {
	script := filler(t, api.MaxTold)
	at := feeds(script)
	tells(t, script+"\n#\n\n", told(t, script))
	refuses(t, script+"\n#\n\nkeep\n#\n", api.ErrLong, at+4)
	refuses(t, "\n\n"+script+"\n#\n\nkeep\n", api.ErrLong, at+6)
}

// deep is a program in which so many statements stand in 150 blocks, and a comment of so many bytes at its end.
func deep(statements, bytes int) string {
	return "program p;" + strings.Repeat("begin ", 150) + strings.Repeat("a;", statements) + "a" + strings.Repeat(" end", 150) + ".{" + strings.Repeat("x", bytes) + "}\n"
}

// grown is a program that has so many bytes when it is formatted, not much less than a source may have.
func grown(t *testing.T, bytes int) string {
	t.Helper()
	text, err := format.Format(72, deep(690, 0))
	if err != nil || len(text) > bytes {
		t.Fatal(len(text), err)
	}
	return deep(690, bytes-len(text))
}

// A source that is as long as one may be, or longer by a byte, by each line that makes one.
func TestP22_1SourcesThatAreTooLong(t *testing.T) {
	t.Parallel()
	exact := of(grown(t, api.MaxText)) + "take\n"
	tells(t, exact+"keep\ncheck\nsame\nbatch 3\nreport\n", "> source\nok\n> take\nok\n> keep\nkept 262144\n> check\nyes\n> same\nyes\n> batch 3\n  a same\n  b same\n> report\nfine\n")
	tells(t, exact+"add\ndone\ntake\nkeep\n", "> source\nok\n> take\nok\n> add\nok\n> take\nok\n> keep\nkept 262144\n")
	tells(t, exact+"cut 1\nadd\n\ndone\ncheck\nkeep\n", "> source\nok\n> take\nok\n> cut 1\nok\n> add\nok\n> check\nyes\n> keep\nkept 262144\n")
	tells(t, exact+of("a\n")+"keep\n", "> source\nok\n> take\nok\n> source\nok\n> keep\nkept 2\n")
	refuses(t, exact+"add\n\ndone\n", api.ErrLong, 5)
	refuses(t, exact+"#\n\nadd\nx\n\ndone\ncut 2\nkeep\n", api.ErrLong, 7)
	refuses(t, exact+"cut 1\nadd\nx\ndone\n", api.ErrLong, 6)
	refuses(t, exact+"add\nx\ndone\nsing\n", api.ErrDeskLine, 8)
	more := of(grown(t, api.MaxText+1)) + "take\n"
	refuses(t, more, api.ErrLong, 4)
	refuses(t, "#\n"+more+"keep\n"+of(source), api.ErrLong, 5)
	// What is refused is not made the source, however long it would be.
	tells(t, of(grown(t, api.MaxText-3))+"add\nx\ndone\ntake\n", "> source\nok\n> add\nok\n> take\nerror 120 at 2:1\n")
	// What is not made the source may be longer.
	tells(t, of(grown(t, api.MaxText+1))+"check\nbatch 1\ndrive 9999999\n", "> source\nok\n> check\nno\n> batch 1\n  a other\n> drive 9999999\n262144 1\nno\n")
}

// What Format tells may be far longer than all that may be told, or be a source.
func TestP22_1FarTooLong(t *testing.T) {
	script := of(deep(9000, 0))
	text, err := format.Format(72, deep(9000, 0))
	if err != nil || len(text) < 2*api.MaxTold {
		t.Fatal(len(text), err)
	}
	tells(t, script+"check\n", "> source\nok\n> check\nno\n")
	tells(t, script+"drive 9999999\n", "> source\nok\n> drive 9999999\n"+strconv.Itoa(len(text)-1)+" 1\nno\n")
	refuses(t, script+"format\n", api.ErrLong, 4)
	refuses(t, script+"\ntake\n", api.ErrLong, 5)
	refuses(t, script+"format\nkeep\n"+strings.Repeat("cut 9999999\n", 900), api.ErrLong, 4)
}
