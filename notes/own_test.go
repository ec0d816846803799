package notes_test

import (
	"math/rand/v2"
	"runtime"
	"slices"
	"strings"
	"sync"
	"testing"
	"unsafe"
	"weak"

	"colophon/api"
	"colophon/notes"
	"colophon/samples"
)

// sources are some that scan takes, and such as it does not.
func sources() []string {
	r := rand.New(rand.NewPCG(19, 7))
	var all []string
	for _, c := range wrongs() {
		all = append(all, c.source)
	}
	for size := range 30 {
		source := samples.SomeSource(r.IntN, 1+8*size)
		all = append(all, source, source[:r.IntN(len(source))])
	}
	return all
}

// asked is what both calls tell of each source.
func asked(all []string) []answer {
	var l []answer
	for _, source := range all {
		l = append(l, answer{text: remarks(source)}, stripped(source))
	}
	return l
}

// The same again: an answer hangs on nothing that was ahead of it, be that an error or not.
func TestR2TheSameAgain(t *testing.T) {
	all := sources()
	want := asked(all)
	for i, source := range slices.Backward(all) {
		if got := stripped(source); got != want[2*i+1] {
			t.Fatalf("Strip(%s): %s, and ahead of that %s", samples.Short(source), got, want[2*i+1])
		}
		if got := remarks(source); got != want[2*i].text {
			t.Fatalf("Of(%s): %s, and ahead of that %s", samples.Short(source), got, want[2*i].text)
		}
	}
}

func TestR2Goroutines(t *testing.T) {
	all := sources()
	want := asked(all)
	var wait sync.WaitGroup
	for range 8 {
		wait.Go(func() {
			if got := asked(all); !slices.Equal(got, want) {
				t.Errorf("%v in a goroutine, not %v", got, want)
			}
		})
	}
	wait.Wait()
}

// No goroutine is left.
func TestR2NoGoroutineIsLeft(t *testing.T) {
	before := runtime.NumGoroutine()
	asked(sources())
	if after := runtime.NumGoroutine(); after > before {
		t.Errorf("%d goroutines, and %d ahead of that", after, before)
	}
}

// A Fault is another one each time: what is written into it is seen in no other.
func TestR2AFaultIsAnotherOneEachTime(t *testing.T) {
	for _, c := range wrongs() {
		for _, call := range []func() error{
			func() error { _, err := notes.Of(c.source); return err },
			func() error { _, err := notes.Strip(c.source); return err },
		} {
			first, second := call(), call()
			f, ok := first.(*api.Fault)
			if !ok || first == second {
				t.Fatalf("%v and %v", first, second)
			}
			*f = api.Fault{Code: 99, Place: api.Place{At: 98, Line: 97, Column: 96}}
			if samples.FaultWord(second) != c.want || samples.FaultWord(call()) != c.want {
				t.Fatalf("%s: another Fault changed", c.want)
			}
		}
	}
}

// What is told is the caller's own: nothing that is done to it is seen in another answer.
func TestR2WhatIsToldIsTheCallersOwn(t *testing.T) {
	const source = "{a}b{c}//d\n{e}"
	want := remarks(source)
	first, _ := notes.Of(source)
	second, _ := notes.Of(source)
	kept := slices.Clone(second)
	for i := range first {
		first[i] = api.Remark{Ahead: 99, Text: "other", Behind: true}
	}
	_ = append(first[:1], first[2:]...)
	if !slices.Equal(second, kept) {
		t.Errorf("%v behind writing into another answer, and %v ahead of that", second, kept)
	}
	holdsOf(t, source, want)
}

// asksOwn asks of a source that no one else has; what is told, and where that source stands.
func asksOwn(s string) (told []any, own weak.Pointer[byte]) {
	s = strings.Clone(s + " ")
	l, err := notes.Of(s)
	text, wrong := notes.Strip(s)
	return []any{l, err, text, wrong}, weak.Make(unsafe.StringData(s))
}

// No source is kept: the texts that are told are new memory, of a source without comments too, and an error keeps none.
func TestR2NoSourceIsKept(t *testing.T) {
	great := strings.Repeat("great ", 200)
	for _, s := range []string{great, great + "{" + great + "}", "//" + great, "{a}" + great, great + "{a}?", "?" + great, great + "{" + great} {
		told, own := asksOwn(s)
		runtime.GC()
		if own.Value() != nil {
			t.Errorf("%s is kept", samples.Short(s))
		}
		runtime.KeepAlive(told)
	}
}
