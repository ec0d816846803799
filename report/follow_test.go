package report_test

import (
	"math/rand/v2"
	"strings"
	"testing"
	"unicode/utf8"

	"colophon/api"
	"colophon/char"
	"colophon/format"
	"colophon/place"
	"colophon/report"
	"colophon/samples"
)

// shownOf is what Show tells of a Fault behind its first line.
func shownOf(t *testing.T, s string, f *api.Fault) string {
	t.Helper()
	got := report.Show("f", s, f)
	rest, ok := strings.CutPrefix(got, "f: "+f.Error()+"\n")
	if !ok {
		t.Fatalf("Show(%s, %v): %s", samples.Short(s), f, samples.Short(got))
	}
	return rest
}

// isClean holds what P20.2 says of a line that is shown, with its line feed.
func isClean(t *testing.T, s, line string) {
	t.Helper()
	if !utf8.ValidString(line) {
		t.Fatalf("%s: %s is no good UTF-8", samples.Short(s), samples.Short(line))
	}
	for i := range len(line) {
		if (line[i] < 0x20 || line[i] == 0x7f) && i < len(line)-1 {
			t.Fatalf("%s: %s has the byte %x", samples.Short(s), samples.Short(line), line[i])
		}
	}
	if !strings.HasSuffix(line, "\n") {
		t.Fatalf("%s: %s has no end", samples.Short(s), samples.Short(line))
	}
}

// hasMark holds that of a place there are a line and a mark, and that nothing is in the mark's line but blanks and it.
func hasMark(t *testing.T, s string, f *api.Fault) {
	t.Helper()
	rest := shownOf(t, s, f)
	line, mark, ok := strings.Cut(rest, "\n")
	if !ok || strings.TrimLeft(mark, " ") != "^\n" || !strings.HasPrefix(mark, "  ") {
		t.Fatalf("%s: %s at %v", samples.Short(s), samples.Short(rest), f)
	}
	isClean(t, s, line+"\n")
}

// marksEverywhere holds it of the beginning of each character, and of the end.
func marksEverywhere(t *testing.T, s string) {
	t.Helper()
	for _, n := range append(char.Places(s), len(s)) {
		p, code := place.Of(s, n)
		if code != api.OK {
			t.Fatalf("%q at %d: %v", s, n, code)
		}
		hasMark(t, s, &api.Fault{Code: api.ErrScanByte, Place: p})
	}
}

func TestP20_2AllShortSources(t *testing.T) {
	t.Parallel()
	for s := range samples.Texts(parts(), 4) {
		marksEverywhere(t, s)
	}
}

func TestP20_2AnyBytes(t *testing.T) {
	t.Parallel()
	r := rand.New(rand.NewPCG(20, 3))
	for range 10000 {
		b := make([]byte, r.IntN(40))
		for i := range b {
			b[i] = byte(r.IntN(256))
		}
		marksEverywhere(t, string(b))
	}
}

func TestP20_2SomeSources(t *testing.T) {
	t.Parallel()
	r := rand.New(rand.NewPCG(20, 4))
	for range 100 {
		marksEverywhere(t, samples.SomeSource(r.IntN, 1+r.IntN(100)))
	}
}

// Every byte there is, ahead of every one: what is shown of the line is good UTF-8 at a place within a character, too.
func TestP20_2EveryTwoBytes(t *testing.T) {
	for a := range 256 {
		for b := range 256 {
			s := string([]byte{byte(a), byte(b)})
			marksEverywhere(t, s)
			for at := range 4 {
				p, _ := place.Of(s, at)
				line, _, marked := strings.Cut(shownOf(t, s, &api.Fault{Code: 1, Place: p}), "\n")
				if marked {
					isClean(t, s, line+"\n")
				}
			}
		}
	}
}

// What format finds wrong with a source always has its mark: it is at the beginning of a character, or at the end.
func TestP20_2WhatFormatTells(t *testing.T) {
	t.Parallel()
	wrong := 0
	for s := range samples.Texts(samples.SourceParts(), 3) {
		_, err := format.Format(72, s)
		if f, ok := err.(*api.Fault); ok {
			hasMark(t, s, f)
			wrong++
		}
	}
	if wrong == 0 {
		t.Error("no source is wrong")
	}
}
