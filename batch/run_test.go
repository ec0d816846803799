package batch_test

import (
	"math"
	"math/rand/v2"
	"slices"
	"strings"
	"testing"

	"colophon/api"
	"colophon/samples"
)

func TestP21_1Examples(t *testing.T) {
	l := []api.File{{Name: "a", Text: source}, {Name: "b", Text: formed}, {Name: "c", Text: "begin"}}
	want := []api.Outcome{good("a", formed, false), good("b", formed, true), bad("c", api.ErrParseTok, 0, 1, 1)}
	equals(t, run(t, 72, 2, l), want)
	holds(t, 72, l, want)
	refuses(t, 72, 0, l, api.ErrArg)
	refuses(t, 72, 17, l, api.ErrArg)
	refuses(t, 0, 1, l, api.ErrArg)
	refuses(t, 72, 1, make([]api.File, 257), api.ErrLong)
	holds(t, 72, nil, nil)
}

// What desk tells in an example of the whole: of the source and of the one that is kept.
func TestP21_1AnExampleOfTheWhole(t *testing.T) {
	const kept = "program p;begin skip{x}end.\n"
	const told = "program p;\nbegin\n  skip {x}\nend.\n"
	b := api.File{Name: "b", Text: kept}
	equals(t, run(t, 72, 2, []api.File{{Name: "a", Text: told}, b}), []api.Outcome{good("a", told, true), good("b", told, false)})
	equals(t, run(t, 72, 1, []api.File{{Name: "a", Text: "?\n"}, b}), []api.Outcome{bad("a", api.ErrScanByte, 0, 1, 1), good("b", told, false)})
}

// numbers are such as are not 1 to most; some of them would be, if they were cut to fewer bits.
func numbers(most int) []int {
	return []int{0, most + 1, -1, most + 2, -most, 2 * most, 1<<16 + 1, 1<<32 + 1, 1<<32 + most, math.MinInt, math.MinInt + 1, math.MaxInt}
}

// A width that is none, whatever the files are.
func TestP21_1Widths(t *testing.T) {
	for _, width := range numbers(api.MaxWidth) {
		for _, l := range [][]api.File{nil, {}, {{}}, files(3), files(256)} {
			for _, workers := range []int{1, 2, 16} {
				refuses(t, width, workers, l, api.ErrArg)
			}
		}
	}
	for _, width := range []int{1, 2, 72, 4095, 4096} {
		l := []api.File{{Name: "a", Text: source}, {Name: "b", Text: formed}}
		holds(t, width, l, []api.Outcome{good("a", formed, false), good("b", formed, true)})
	}
}

// Workers that are none, whatever the files are.
func TestP21_1Workers(t *testing.T) {
	for _, workers := range numbers(16) {
		for _, l := range [][]api.File{nil, {}, {{}}, files(3), files(256)} {
			for _, width := range []int{1, 72, 4096} {
				refuses(t, width, workers, l, api.ErrArg)
			}
		}
	}
	for workers := 1; workers <= 16; workers++ {
		equals(t, run(t, 72, workers, files(40)), outcomes(40))
	}
}

// More than 256 files are too many, whatever they are.
func TestP21_1TooManyFiles(t *testing.T) {
	for _, size := range []int{257, 258, 512, 10000} {
		for _, l := range [][]api.File{make([]api.File, size), files(size), slices.Repeat([]api.File{{Name: "a", Text: formed}}, size)} {
			for _, workers := range []int{1, 16} {
				for _, width := range []int{1, 72, 4096} {
					refuses(t, width, workers, l, api.ErrLong)
				}
			}
		}
	}
}

// A width that is none, and workers that are none, go ahead of too many files.
func TestP21_1WhichErrorGoesAhead(t *testing.T) {
	many := files(257)
	for _, width := range []int{0, -1, 4097, math.MinInt, math.MaxInt} {
		for _, workers := range []int{1, 16, 0, -1, 17, math.MinInt, math.MaxInt} {
			refuses(t, width, workers, many, api.ErrArg)
		}
	}
	for _, workers := range []int{0, -1, 17, math.MinInt, math.MaxInt} {
		for _, width := range []int{1, 72, 4096} {
			refuses(t, width, workers, many, api.ErrArg)
		}
	}
}

func TestP21_1NoFiles(t *testing.T) {
	for workers := 1; workers <= 16; workers++ {
		for _, l := range [][]api.File{nil, {}, files(5)[:0]} {
			for _, width := range []int{1, 72, 4096} {
				run(t, width, workers, l)
			}
		}
	}
}

// A file that has nothing, and more of them: each is refused for itself.
func TestP21_1EmptyFiles(t *testing.T) {
	for _, size := range []int{1, 2, 17, 256} {
		holds(t, 72, make([]api.File, size), slices.Repeat([]api.Outcome{bad("", api.ErrParseEnd, 0, 1, 1)}, size))
	}
	holds(t, 72, []api.File{{Name: "a"}, {Text: source}, {}}, []api.Outcome{bad("a", api.ErrParseEnd, 0, 1, 1), good("", formed, false), bad("", api.ErrParseEnd, 0, 1, 1)})
}

// As many files as may be, in their order, and one, and such as are as many as the workers or one more or less.
func TestP21_1TheirOrder(t *testing.T) {
	for _, size := range []int{1, 2, 3, 15, 16, 17, 31, 32, 33, 255, 256} {
		holds(t, 72, files(size), outcomes(size))
	}
}

// A file that takes long, and stands ahead of others: its outcome stands there, too.
func TestP21_1AFileThatTakesLong(t *testing.T) {
	long := "program p;begin " + strings.Repeat("a;", 60000) + "a end."
	want := "program p;\nbegin\n" + strings.Repeat("  a;\n", 60000) + "  a\nend.\n"
	for _, at := range []int{0, 1, 20, 39} {
		l, told := files(40), outcomes(40)
		l[at].Text, told[at] = long, good(l[at].Name, want, false)
		for _, workers := range []int{1, 2, 16} {
			equals(t, run(t, 72, workers, l), told)
		}
	}
}

// Files of one name, and of one text, and of both: each has an outcome.
func TestP21_1TheSameNameAndText(t *testing.T) {
	texts := []string{source, formed, "begin", source, formed, "begin", source}
	var l []api.File
	var want []api.Outcome
	for _, text := range texts {
		l = append(l, api.File{Name: "a", Text: text})
		o := good("a", formed, text == formed)
		if text == "begin" {
			o = bad("a", api.ErrParseTok, 0, 1, 1)
		}
		want = append(want, o)
	}
	holds(t, 72, l, want)
	for i := range l {
		l[i].Name, want[i].Name = strings.Repeat("b", i), strings.Repeat("b", i)
	}
	holds(t, 72, l, want)
	holds(t, 72, slices.Repeat([]api.File{{Name: "a", Text: source}}, 256), slices.Repeat([]api.Outcome{good("a", formed, false)}, 256))
}

// A name is any bytes, and says nothing.
func TestP21_1Names(t *testing.T) {
	var l []api.File
	var want []api.Outcome
	for _, name := range []string{"", " ", "a", "a/b.c", "../a", "a\nb", "\x00", "\xff\xc3", "\u65e5\u0301", "source", formed, strings.Repeat("n", 1<<20)} {
		l = append(l, api.File{Name: name, Text: source}, api.File{Name: name, Text: formed}, api.File{Name: name, Text: "?"})
		want = append(want, good(name, formed, false), good(name, formed, true), bad(name, api.ErrScanByte, 0, 1, 1))
	}
	holds(t, 72, l, want)
}

// Text and Same are those of the width: the chapters' examples, as sources and as what is told of them.
func TestP21_1TheExamplesOfFormat(t *testing.T) {
	for _, x := range samples.Examples() {
		l := []api.File{{Name: "source", Text: x.Source}, {Name: "told", Text: x.Want}, {Name: "more", Text: x.Want + "\n"}, {Name: "less", Text: x.Want[:len(x.Want)-1]}}
		holds(t, x.Width, l, []api.Outcome{good("source", x.Want, false), good("told", x.Want, true), good("more", x.Want, false), good("less", x.Want, false)})
	}
	const broken = "program p;\nbegin\n  x :=\n    a + b\nend.\n"
	const flat = "program p;\nbegin\n  x := a + b\nend.\n"
	l := []api.File{{Name: "broken", Text: broken}, {Name: "flat", Text: flat}}
	holds(t, 11, l, []api.Outcome{good("broken", broken, true), good("flat", broken, false)})
	holds(t, 12, l, []api.Outcome{good("broken", flat, false), good("flat", flat, true)})
}

// A width is that of the lines, the greatest one, too: what has as many columns fits, and one more does not.
func TestP21_1WhatFits(t *testing.T) {
	for _, width := range []int{10, 71, 72, 73, 74, 100, 4095, 4096} {
		fits := strings.Repeat("b", width-len("  a := "))
		l := []api.File{{Name: "fits", Text: "program p;begin a:=" + fits + " end."}, {Name: "more", Text: "program p;begin a:=" + fits + "b end."}}
		want := []api.Outcome{
			good("fits", samples.Lines("program p;", "begin", "  a := "+fits, "end."), false),
			good("more", samples.Lines("program p;", "begin", "  a :=", "    "+fits+"b", "end."), false),
		}
		holds(t, width, l, want)
	}
}

// One byte more, less or another one, and a file is not formatted already.
func TestP21_1EveryByteCounts(t *testing.T) {
	texts := []string{formed, formed[:len(formed)-1], formed[:len(formed)-1] + " ", formed + "\n", " " + formed, "\n" + formed, strings.Replace(formed, "\n", " ", 1), strings.ReplaceAll(formed, "  ", "\t ")}
	var l []api.File
	var want []api.Outcome
	for i, text := range texts {
		l = append(l, api.File{Name: "a", Text: text})
		want = append(want, good("a", formed, i == 0))
	}
	holds(t, 72, l, want)
}

// Every error that a source may have: its number and its place, and no text; beside files that are taken.
func TestP21_1WrongFiles(t *testing.T) {
	var l []api.File
	for _, c := range samples.Wrongs() {
		l = append(l, api.File{Name: c.Want, Text: c.Source}, api.File{Name: "good", Text: source})
	}
	for _, workers := range []int{1, 3, 16} {
		for _, width := range []int{1, 72, 4096} {
			for i, o := range run(t, width, workers, l) {
				want := l[i].Name
				if want == "good" {
					equals(t, []api.Outcome{o}, []api.Outcome{good("good", formed, false)})
				} else if got := samples.FaultAt(o.Fault.Code, o.Fault.Place); got != want || o.Name != want || o.Text != "" || o.Same {
					t.Errorf("%s: %s", want, word(o))
				}
			}
		}
	}
}

// Files as long as may be, and longer ones.
func TestP21_1LongFiles(t *testing.T) {
	t.Parallel()
	long := formed + strings.Repeat(" ", api.MaxText-len(formed))
	noted := formed + strings.Repeat("//abc\n", (api.MaxText-len(formed))/6)
	l := []api.File{{Name: "a", Text: long}, {Name: "b", Text: long + " "}, {Name: "c", Text: noted}, {Name: "d", Text: "?" + long}, {Name: "e", Text: "?" + long[1:]}}
	holds(t, 72, l, []api.Outcome{good("a", formed, false), bad("b", api.ErrLong, 0, 0, 0), good("c", noted, true), bad("d", api.ErrLong, 0, 0, 0), bad("e", api.ErrScanByte, 0, 1, 1)})
}

// What is told may be longer than what may come in.
func TestP21_1TextThatIsLonger(t *testing.T) {
	t.Parallel()
	text := "program p;begin " + strings.Repeat("a;", 130000) + "a end."
	want := "program p;\nbegin\n" + strings.Repeat("  a;\n", 130000) + "  a\nend.\n"
	holds(t, 72, []api.File{{Name: "a", Text: text}, {Name: "b", Text: want}}, []api.Outcome{good("a", want, false), bad("b", api.ErrLong, 0, 0, 0)})
}

// Programs of any shape, formatted and not, and what is none, against a second way.
func TestP21_1SomeFiles(t *testing.T) {
	t.Parallel()
	r := rand.New(rand.NewPCG(21, 1))
	met := map[string]int{}
	for range 30 {
		width := 1 + r.IntN(80)
		l := someFiles(t, r, width, 1+r.IntN(60))
		want := plainOutcomes(t, width, l)
		equals(t, run(t, width, 1+r.IntN(16), l), want)
		for _, o := range want {
			met[sortOf(o)]++
		}
	}
	if met["same"] < 100 || met["other"] < 100 || met["wrong"] < 100 {
		t.Errorf("%v: too few of one sort", met)
	}
}

// sortOf is what desk calls an outcome.
func sortOf(o api.Outcome) string {
	switch {
	case o.Fault != (api.Fault{}):
		return "wrong"
	case o.Same:
		return "same"
	}
	return "other"
}
