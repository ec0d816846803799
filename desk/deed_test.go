package desk_test

import (
	"strings"
	"testing"
)

func TestP22_1Source(t *testing.T) {
	tells(t, "source\na\n\n# b\ndone\nkeep\nsource\ndone\nkeep\n", "> source\nok\n> keep\nkept 7\n> source\nok\n> keep\nkept 0\n")
	// The block is not told, and goes up to the first line that is just done.
	block := "source\nadd\nformat\nsing\n done\ndone \ndone\r\nDone\n#done\ndone 1\n\n> done\n"
	tells(t, of(block)+"keep\n", "> source\nok\n> keep\nkept 67\n")
	refuses(t, of(block)+"done\n", 220, 15)
	// Another one is behind nothing.
	tells(t, of("ab\n")+of("c\n")+"tokens\n", "> source\nok\n> source\nok\n> tokens\n  1 1 1 0 1\ntokens 1\n")
}

// Whatever bytes stand in a block, they are the source's.
func TestP22_1AnyBytesInABlock(t *testing.T) {
	for b := range 256 {
		c := string([]byte{byte(b)})
		if c != "}" && c != "\n" {
			does(t, "{\n"+c+"\n\xc3"+c+c+"}\n", "notes", "  0 alone 8", "notes 1")
		}
		if c >= " " && c != "\"" && c != "\x7f" {
			does(t, "\n\""+c+"\xff\"\n", "tokens", "  4 2 1 1 4", "tokens 1")
		}
	}
	does(t, "{\x00\r\xff\xc3}\n", "layout", "error 121 at 2:1")
	does(t, "program p;{\x00\r\xff\\}begin skip end.\n", "layout", "  text program", "  blank", "  text p", "  text ;", "  blank", `  text {\x00\x0d\xff\\}`,
		"  hard", "  text begin", "  begin 2 even", "  hard", "  text skip", "  end", "  hard", "  text end", "  text .", "  hard")
}

func TestP22_1Add(t *testing.T) {
	tells(t, "add\n"+source+"done\ncheck\n", "> add\nok\n> check\nno\n")
	tells(t, of("a\n")+"add\ndone\nkeep\nadd\n\n\ndone\nkeep\n", "> source\nok\n> add\nok\n> keep\nkept 2\n> add\nok\n> keep\nkept 4\n")
	// It is behind the last byte, in its line too, if that has no end.
	tells(t, of("ab\n")+"cut 1\nadd\ncd\ndone\ntokens\n", "> source\nok\n> cut 1\nok\n> add\nok\n> tokens\n  1 1 1 0 4\ntokens 1\n")
	tells(t, of("ab\n")+"add\ncd\ndone\ntokens\n", "> source\nok\n> add\nok\n> tokens\n  1 1 1 0 2\n  1 2 1 1 2\ntokens 2\n")
	tells(t, of("'\xe6\x97\n")+"cut 1\nadd\n\xa5'\ndone\ntokens\n", "> source\nok\n> cut 1\nok\n> add\nok\n> tokens\n  5 1 1 0 5\ntokens 1\n")
}

func TestP22_1Cut(t *testing.T) {
	tells(t, of("abcd\n")+"cut 0\nkeep\ncut 1\nkeep\ncut 3\nkeep\ntokens\ncut 1\nkeep\n",
		"> source\nok\n> cut 0\nok\n> keep\nkept 5\n> cut 1\nok\n> keep\nkept 4\n> cut 3\nok\n> keep\nkept 1\n> tokens\n  1 1 1 0 1\ntokens 1\n> cut 1\nok\n> keep\nkept 0\n")
	// More bytes than there are: all go.
	for _, n := range []string{"6", "7", "72", "4097", "9999999"} {
		tells(t, of("abcd\n")+"cut "+n+"\nkeep\ncut "+n+"\nkeep\n", "> source\nok\n> cut "+n+"\nok\n> keep\nkept 0\n> cut "+n+"\nok\n> keep\nkept 0\n")
	}
	tells(t, "cut 0\ncut 1\nkeep\n", "> cut 0\nok\n> cut 1\nok\n> keep\nkept 0\n")
	// Bytes, not characters.
	tells(t, of("a\xc3\xa9\n")+"cut 2\ntokens\ncut 1\ntokens\n", "> source\nok\n> cut 2\nok\n> tokens\nerror 100 at 1:2\n> cut 1\nok\n> tokens\n  1 1 1 0 1\ntokens 1\n")
	// The last bytes go, not the first ones; what is kept stays.
	tells(t, of(source+"x\n")+"keep\ncut 2\ncheck\nbatch 1\nsame\n", "> source\nok\n> keep\nkept 28\n> cut 2\nok\n> check\nno\n> batch 1\n  a other\n  b wrong\n> same\nerror 120 at 2:1\n")
}

func TestP22_1Width(t *testing.T) {
	text := "program p;begin x:=a+b end.\n"
	narrow := "  program p;\n  begin\n    x :=\n      a +\n      b\n  end.\n"
	wide := "  program p;\n  begin\n    x := a + b\n  end.\n"
	// From the line on, till the next one, whatever the source is then.
	tells(t, "width 1\n"+of(text)+"format\nwidth 4096\nformat\nwidth 7\n"+of(text)+"format\n",
		"> width 1\nok\n> source\nok\n> format\n"+narrow+"> width 4096\nok\n> format\n"+wide+"> width 7\nok\n> source\nok\n> format\n"+narrow)
	// Whatever formats does it at the width.
	tells(t, of(text)+"width 11\ntake\ncheck\nbatch 1\ndrive 9999999\nwidth 12\ncheck\nbatch 1\ndrive 9999999\n",
		"> source\nok\n> width 11\nok\n> take\nok\n> check\nyes\n> batch 1\n  a same\n> drive 9999999\n38 1\nyes\n> width 12\nok\n> check\nno\n> batch 1\n  a other\n> drive 9999999\n34 1\nno\n")
	for _, n := range []string{"2", "10", "72", "1000", "4095"} {
		tells(t, "width "+n+"\n", "> width "+n+"\nok\n")
	}
}

func TestP22_1Format(t *testing.T) {
	does(t, source, "format", "  program p;", "  begin", "    skip", "  end.")
	does(t, "program p;begin skip ?\n", "format", "error 100 at 1:22")
	does(t, "\n\n  ;\n", "format", "error 120 at 3:3")
	tells(t, "format\n", "> format\nerror 121 at 1:1\n")
	// Empty lines within it are told, and what stands in a comment as it is.
	does(t, "program p;\n\nvar a:t;\n\n\nvar b:t;begin {x\n\n  y }skip end.\n", "format", "  program p;", "  ", "  var a: t;", "  ", "  var b: t;", "  begin {x", "  ", "    y }", "    skip", "  end.")
	does(t, "{\n\n}{> a\n\xff\r\n}program p;begin skip end.\n", "format", "  {", "  ", "  } {> a", "  \xff\r", "  }", "  program p;", "  begin", "    skip", "  end.")
}

func TestP22_1Drive(t *testing.T) {
	does(t, source, "drive 7", "0 10 13 5 1", "no")
	does(t, source, "drive 26", "28 1", "no")
	does(t, source, "drive 25", "27 1 1", "no")
	does(t, source, "drive 27", "28 1", "no")
	does(t, source, "drive 9999999", "28 1", "no")
	does(t, formed, "drive 9999999", "28 1", "yes")
	does(t, formed, "drive 29", "28 1", "yes")
	does(t, formed+"\n", "drive 29", "28 0 1", "no")
	// Of an empty source there is no chunk.
	does(t, "", "drive 1", "0", "error 121 at 1:1")
	does(t, "\n", "drive 1", "0 0", "error 121 at 2:1")
	// The call that is refused is the last one, with what it told.
	does(t, "program p;begin skip;; \n", "drive 9999999", "24", "error 120 at 1:22")
	does(t, "program p;begin skip;; end.\n", "drive 7", "0 10 13 1", "error 120 at 1:22")
	does(t, "program p;begin skip;; end.\n"+strings.Repeat(" ", 100)+"\n", "drive 23", "24", "error 120 at 1:22")
	does(t, "?"+source, "drive 1", "0", "error 100 at 1:1")
	does(t, "program p;begin skip end\n", "drive 9999999", "27 0", "error 121 at 2:1")
	does(t, "program p;begin skip end. {\n", "drive 20", "16 12 0", "error 101 at 1:27")
}

// A byte at a time.
func TestP22_1DriveByteByByte(t *testing.T) {
	does(t, "program p;begin skip end.\n", "drive 1",
		"0 0 0 0 0 0 0 7 0 2 1 0 0 0 0 6 0 0 0 0 7 0 0 0 4 1 1", "no")
}

func TestP22_1Check(t *testing.T) {
	does(t, source, "check", "no")
	does(t, formed, "check", "yes")
	does(t, formed+"\n", "check", "no")
	does(t, "x\n", "check", "error 120 at 1:1")
	tells(t, of(formed)+"cut 1\ncheck\n", "> source\nok\n> cut 1\nok\n> check\nno\n")
}

func TestP22_1Tokens(t *testing.T) {
	does(t, "", "tokens", "tokens 0")
	does(t, " \t\n\r\n", "tokens", "tokens 0")
	does(t, "x if 12 \"\u65e5\"\n\n\n 'c' := //ab \t\n{\n\u00e9\n}\n", "tokens",
		"  1 1 1 0 1", "  2 1 3 0 2", "  3 1 6 0 2", "  4 1 9 0 5", "  5 4 2 3 3", "  6 4 6 0 2", "  7 4 9 0 4", "  8 5 1 1 6", "tokens 8")
	// What is no program, too; with an error none is told.
	does(t, "end end\n", "tokens", "  2 1 1 0 3", "  2 1 5 0 3", "tokens 2")
	does(t, "a b\nc ?\n", "tokens", "error 100 at 2:3")
	does(t, "a \"\n", "tokens", "error 101 at 1:3")
	does(t, "a '\t'\n", "tokens", "error 102 at 1:4")
	long := strings.Repeat("a", 40000)
	tells(t, of(long+"\n")+"tokens\n", "> source\nok\n> tokens\n  1 1 1 0 40000\ntokens 1\n")
	does(t, "\n//"+strings.Repeat("\u65e5", 10000)+"\n", "tokens", "  7 2 1 1 30002", "tokens 1")
}

func TestP22_1Layout(t *testing.T) {
	want := []string{"  text program", "  blank", "  text p", "  text ;", "  hard", "  text begin", "  begin 2 even", "  hard", "  begin 2", "  text a", "  blank", "  text :=", "  break 1",
		"  begin 0", "  begin 0", "  begin 0", "  begin 0", `  text "\xc3\xa9\\"`, "  end", "  end", "  end", "  end", "  end", "  end", "  hard", "  text end", "  text .", "  hard"}
	does(t, "program p;begin a:=\"\u00e9\\\" end.\n", "layout", want...)
	// The width does not matter.
	tells(t, of(source)+"width 1\nlayout\n", strings.Replace(told(t, of(source)+"layout\n"), "> layout", "> width 1\nok\n> layout", 1))
	does(t, "program p;\nbegin ? end.\n", "layout", "error 100 at 2:7")
	does(t, "program p;begin\n", "layout", "error 121 at 2:1")
}

func TestP22_1Notes(t *testing.T) {
	does(t, "", "notes", "notes 0")
	does(t, source, "notes", "notes 0")
	does(t, "{a} b {\n\u65e5} // c \t\n\n// d\n:= 1 {}\n", "notes", "  0 alone 3", "  1 behind 6", "  1 behind 4", "  1 alone 4", "  3 behind 2", "notes 5")
	does(t, "{a}\n?\n", "notes", "error 100 at 2:1")
	does(t, "{a} {\n", "notes", "error 101 at 1:5")
}

func TestP22_1Strip(t *testing.T) {
	tells(t, of("a{b}c// d\n{e\n} f\n")+"strip\ntokens\nkeep\n", "> source\nok\n> strip\nok\n> tokens\n  1 1 1 0 1\n  1 1 3 0 1\n  1 2 3 1 1\ntokens 3\n> keep\nkept 8\n")
	// What is refused leaves the source.
	tells(t, of("{a}\n{\n")+"strip\nkeep\n", "> source\nok\n> strip\nerror 101 at 2:1\n> keep\nkept 6\n")
	tells(t, "strip\n"+of("{a}"+source)+"strip\ncheck\nkeep\n", "> strip\nok\n> source\nok\n> strip\nok\n> check\nno\n> keep\nkept 27\n")
}

func TestP22_1Take(t *testing.T) {
	tells(t, of(source)+"take\nkeep\ncheck\ntake\nkeep\n", "> source\nok\n> take\nok\n> keep\nkept 29\n> check\nyes\n> take\nok\n> keep\nkept 29\n")
	// What is refused leaves the source.
	tells(t, of("program p;\nskip\n")+"take\nkeep\n", "> source\nok\n> take\nerror 120 at 2:1\n> keep\nkept 16\n")
	tells(t, "take\nkeep\n", "> take\nerror 121 at 1:1\n> keep\nkept 0\n")
}

func TestP22_1Report(t *testing.T) {
	does(t, source, "report", "fine")
	does(t, formed, "report", "fine")
	does(t, "", "report", "  source: 1:1: error 121", "    ", "    ^")
	does(t, "program p;\nbegin \u65e5\t:= \u00e9\xff ? end.\n", "report", "  source: 2:13: error 100", "    begin \u65e5 := \u00e9\ufffd ? end.", "                 ^")
	does(t, "x\n\n", "report", "  source: 1:1: error 120", "    x", "    ^")
	// The end stands behind the last line feed, or behind the last byte.
	does(t, "program p;begin skip end\n", "report", "  source: 2:1: error 121", "    ", "    ^")
	tells(t, of("program p;begin skip end\n")+"cut 1\nreport\n", "> source\nok\n> cut 1\nok\n> report\n  source: 1:25: error 121\n    program p;begin skip end\n                            ^\n")
	tells(t, "width 1\n"+of("?\n")+"report\n", "> width 1\nok\n> source\nok\n> report\n  source: 1:1: error 100\n    ?\n    ^\n")
}

func TestP22_1Keep(t *testing.T) {
	tells(t, "keep\nkeep\n"+of("ab\n")+"keep\n", "> keep\nkept 0\n> keep\nkept 0\n> source\nok\n> keep\nkept 3\n")
	// It stays as it was when it was kept.
	tells(t, of(source)+"keep\ntake\nadd\n{x}\ndone\ncut 9999999\nsource\n"+formed+"done\nsame\nbatch 1\n",
		"> source\nok\n> keep\nkept 26\n> take\nok\n> add\nok\n> cut 9999999\nok\n> source\nok\n> same\nyes\n> batch 1\n  a same\n  b other\n")
}

func TestP22_1Same(t *testing.T) {
	tells(t, "same\n"+of(source)+"same\n", "> same\nnone\n> source\nok\n> same\nnone\n")
	tells(t, of(source)+"keep\nsame\ntake\nsame\nadd\n{x}\ndone\nsame\n", "> source\nok\n> keep\nkept 26\n> same\nyes\n> take\nok\n> same\nyes\n> add\nok\n> same\nno\n")
	// An empty one that is kept is one.
	tells(t, "keep\n"+of(source)+"same\n", "> keep\nkept 0\n> source\nok\n> same\nerror 121 at 1:1\n")
	// What is wrong with the one that is kept goes ahead.
	tells(t, of("\n?\n")+"keep\nsource\n;\ndone\nsame\n", "> source\nok\n> keep\nkept 3\n> source\nok\n> same\nerror 100 at 2:1\n")
	tells(t, of(source)+"keep\nsource\n;\ndone\nsame\n", "> source\nok\n> keep\nkept 26\n> source\nok\n> same\nerror 120 at 1:1\n")
	// The last one that was kept.
	tells(t, of("?\n")+"keep\nsource\n"+source+"done\nkeep\nsame\n", "> source\nok\n> keep\nkept 2\n> source\nok\n> keep\nkept 26\n> same\nyes\n")
}

func TestP22_1Batch(t *testing.T) {
	for _, n := range []string{"1", "2", "3", "9", "10", "15", "16"} {
		tells(t, "batch "+n+"\nkeep\nbatch "+n+"\n", "> batch "+n+"\n  a wrong\n> keep\nkept 0\n> batch "+n+"\n  a wrong\n  b wrong\n")
		tells(t, of(source)+"batch "+n+"\n", "> source\nok\n> batch "+n+"\n  a other\n")
		tells(t, of(formed)+"batch "+n+"\nkeep\n"+of(source)+"batch "+n+"\n"+of("?\n")+"batch "+n+"\nkeep\nbatch "+n+"\n",
			"> source\nok\n> batch "+n+"\n  a same\n> keep\nkept 29\n> source\nok\n> batch "+n+"\n  a other\n  b same\n> source\nok\n> batch "+n+"\n  a wrong\n  b same\n> keep\nkept 2\n> batch "+n+"\n  a wrong\n  b wrong\n")
	}
}

// What is refused changes nothing, and what stands behind it is done all the same.
func TestP22_1WhatIsRefused(t *testing.T) {
	for _, line := range []string{"format", "drive 5", "check", "layout", "strip", "take", "report", "same", "tokens", "notes", "batch 3"} {
		got := told(t, "width 7\n"+of("{x}?\n")+"keep\nsource\n?{\ndone\n"+line+"\nkeep\n"+of("program p;begin x:=1 end.\n")+"format\n")
		if !strings.HasPrefix(got, "> width 7\nok\n> source\nok\n> keep\nkept 5\n> source\nok\n> "+line+"\n") ||
			!strings.HasSuffix(got, "> keep\nkept 3\n> source\nok\n> format\n  program p;\n  begin\n    x :=\n      1\n  end.\n") {
			t.Errorf("%s: %q", line, got)
		}
	}
}
