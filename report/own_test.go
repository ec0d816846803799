package report_test

import (
	"errors"
	"runtime"
	"slices"
	"strings"
	"sync"
	"testing"
	"unsafe"
	"weak"

	"colophon/api"
	"colophon/report"
	"colophon/samples"
)

// asked is what Show tells of some sources and errors.
func asked() []string {
	var l []string
	for _, s := range []string{"", "ab", "a\n\u4e00\xff\tb\n", "\n\n"} {
		for _, err := range []error{nil, errors.New("no"), (*api.Fault)(nil), at(1, 1), at(1, 2), held{at(2, 3)}, at(4, 1), at(0, 0)} {
			l = append(l, report.Show("f", s, err))
		}
	}
	return l
}

func TestR2TheSameAgain(t *testing.T) {
	want := asked()
	for range 3 {
		if got := asked(); !slices.Equal(got, want) {
			t.Fatalf("%q, and ahead of that %q", got, want)
		}
	}
}

func TestR2Goroutines(t *testing.T) {
	want := asked()
	shared := held{at(1, 2)}
	var wait sync.WaitGroup
	for range 8 {
		wait.Go(func() {
			if got := asked(); !slices.Equal(got, want) {
				t.Errorf("%q in a goroutine, not %q", got, want)
			}
			holds(t, "f", "ab", shared, "f: 1:2: error 100\n  ab\n   ^\n")
		})
	}
	wait.Wait()
}

func TestR2NoGoroutineIsLeft(t *testing.T) {
	before := runtime.NumGoroutine()
	asked()
	if after := runtime.NumGoroutine(); after > before {
		t.Errorf("%d goroutines, and %d ahead of that", after, before)
	}
}

// A Fault that is handed in stays as it is.
func TestR2AFaultIsNotWrittenInto(t *testing.T) {
	for _, f := range []*api.Fault{at(1, 1), at(1, 9), at(9, 1), {}} {
		want := *f
		report.Show("f", "ab", f)
		report.Show("f", "ab", held{f})
		if *f != want {
			t.Errorf("%v, and ahead of that %v", *f, want)
		}
	}
}

// word is an error whose word is a text that no one else has.
type word string

func (w word) Error() string { return string(w) }

// showsOwn asks of texts that no one else has; what is told, and where these stand.
func showsOwn(name, s, why string) (told []string, own []weak.Pointer[byte]) {
	for _, p := range []*string{&name, &s, &why} {
		*p = strings.Clone(*p)
		own = append(own, weak.Make(unsafe.StringData(*p)))
	}
	for _, err := range []error{nil, word(why), at(1, 1), at(1, 5), at(7, 7)} {
		told = append(told, report.Show(name, s, err))
	}
	return told, own
}

// Neither a name nor a source nor an error's word is kept: what is told is new memory.
func TestR2NoTextIsKept(t *testing.T) {
	great := strings.Repeat("great ", 200)
	for _, s := range []string{great, great + "\n" + great, "\xff" + great} {
		told, own := showsOwn(great, s, great)
		runtime.GC()
		for i, p := range own {
			if p.Value() != nil {
				t.Errorf("text %d of %s is kept", i, samples.Short(s))
			}
		}
		runtime.KeepAlive(told)
	}
}

// angry is an error whose methods panic, those that are named.
type angry struct{ where string }

func (a *angry) panics(where string) {
	if strings.Contains(a.where, where) {
		panic(where)
	}
}

func (a *angry) Error() string { a.panics("Error"); return "angry" }

func (a *angry) Unwrap() error { a.panics("Unwrap"); return at(1, 1) }

// As writes ahead of its panic, so that what was written is not taken for what was found.
func (a *angry) As(target any) bool {
	if t, ok := target.(**api.Fault); ok && strings.Contains(a.where, "As") {
		*t = at(1, 2)
	}
	a.panics("As")
	return false
}

// No error makes Show panic: one whose methods do is told as far as they do not.
func TestR1ErrorsThatPanic(t *testing.T) {
	for _, c := range []struct {
		err  error
		want string
	}{
		{&angry{}, "f: 1:1: error 100\n  ab\n  ^\n"},
		{&angry{"Error"}, "f: 1:1: error 100\n  ab\n  ^\n"},
		{&angry{"Unwrap"}, "f: angry\n"},
		{&angry{"As"}, "f: angry\n"},
		{&angry{"Error Unwrap"}, "f: \n"},
		{&angry{"Error As"}, "f: \n"},
		{(*angry)(nil), "f: \n"},
		{held{&angry{"Unwrap"}}, "f: held\n"},
	} {
		holds(t, "f", "ab", c.err, c.want)
	}
}
