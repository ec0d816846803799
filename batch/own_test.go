package batch_test

import (
	"bytes"
	"math/rand/v2"
	"runtime"
	"slices"
	"strings"
	"sync"
	"testing"
	"testing/synctest"
	"unsafe"
	"weak"

	"colophon/api"
	"colophon/batch"
	"colophon/samples"
)

// The same again: outcomes hang on nothing that was ahead of them, be that an error or not.
func TestR2TheSameAgain(t *testing.T) {
	l := files(60)
	for _, workers := range []int{1, 16, 7, 7} {
		equals(t, run(t, 72, workers, l), outcomes(60))
		refuses(t, 0, workers, l, api.ErrArg)
		refuses(t, 72, workers, make([]api.File, 257), api.ErrLong)
		run(t, 1, workers, l[10:20])
		equals(t, run(t, 72, workers, l), outcomes(60))
	}
}

// Many calls at one time, of the same files: they know nothing of one another.
func TestR2Goroutines(t *testing.T) {
	l, want := files(50), outcomes(50)
	var wait sync.WaitGroup
	for workers := 1; workers <= 16; workers++ {
		wait.Go(func() {
			for range 5 {
				got, code := batch.Run(72, workers, l)
				if code != api.OK || !slices.Equal(got, want) {
					t.Errorf("%d workers: %s, %v", workers, samples.ErrorWord(code), got)
				}
			}
		})
	}
	wait.Wait()
}

// atWork is how many goroutines but this one are in the project's code, by what each has on its stack.
func atWork() int {
	all := make([]byte, 1<<20)
	all = all[:runtime.Stack(all, true)]
	_, others, _ := bytes.Cut(all, []byte("\n\ngoroutine "))
	n := 0
	for one := range bytes.SplitSeq(others, []byte("\n\ngoroutine ")) {
		// A test that waits till it may run beside others has no other code of the project on it.
		if bytes.Contains(one, []byte("\ncolophon/")) && !bytes.Contains(one, []byte("testing.(*T).Parallel")) {
			n++
		}
	}
	return n
}

// When Run answers, none of its goroutines does anything any more, be there more workers than files or fewer.
func TestR2NoGoroutineIsAtWork(t *testing.T) {
	if n := atWork(); n != 0 {
		t.Fatalf("%d ahead of all", n)
	}
	for _, size := range []int{0, 1, 15, 60, 256} {
		l := files(size)
		for workers := 1; workers <= 16; workers++ {
			run(t, 72, workers, l)
			if n := atWork(); n != 0 {
				t.Fatalf("%d files, %d workers: %d goroutines", size, workers, n)
			}
		}
	}
	for _, size := range []int{3, 256, 257} {
		for _, c := range [][2]int{{0, 5}, {72, 0}, {72, 17}, {4097, 16}} {
			refuses(t, c[0], c[1], files(size), api.ErrArg)
		}
		if n := atWork(); n != 0 {
			t.Fatalf("%d files, and an error: %d goroutines", size, n)
		}
	}
}

// None waits for ever: a bubble in which one did would not end well.
func TestR2NoGoroutineIsLeft(t *testing.T) {
	synctest.Test(t, func(t *testing.T) {
		for _, size := range []int{0, 1, 16, 40, 256} {
			for workers := 1; workers <= 16; workers++ {
				run(t, 72, workers, files(size))
			}
			refuses(t, 0, 16, files(size), api.ErrArg)
			refuses(t, 72, 17, files(size), api.ErrArg)
			refuses(t, 72, 16, files(257), api.ErrLong)
		}
	})
}

// Files that come in stay as they were, those in their spare room too.
func TestR2FilesAreNotWrittenInto(t *testing.T) {
	for _, size := range []int{0, 1, 20, 256} {
		l := spare(files(size))
		want := slices.Clone(l[:cap(l)])
		for _, workers := range []int{1, 4, 16, 17} {
			for _, width := range []int{0, 10, 72} {
				batch.Run(width, workers, l)
			}
		}
		if !slices.Equal(l[:cap(l)], want) {
			t.Errorf("%d files: they changed", size)
		}
	}
}

// What is answered is the caller's own: what is written into it, and into its spare room, is seen in no other answer, nor in
// the files.
func TestR2AnAnswerIsTheCallersOwn(t *testing.T) {
	l, want := files(30), outcomes(30)
	first, second := run(t, 72, 4, l), run(t, 72, 4, l)
	first = first[:cap(first)]
	for i := range first {
		first[i] = api.Outcome{Name: "other", Text: "other", Same: true, Fault: api.Fault{Code: 99}}
	}
	equals(t, second, want)
	equals(t, run(t, 72, 4, l), want)
	if !slices.Equal(l, files(30)) {
		t.Error("the files changed")
	}
}

// What is written into the files behind the call is not seen in the answer.
func TestR2FilesMayBeWrittenIntoThen(t *testing.T) {
	for _, workers := range []int{1, 16} {
		l := files(30)
		got := run(t, 72, workers, l)
		for i := range l {
			l[i] = api.File{Name: "other", Text: "?"}
		}
		equals(t, got, outcomes(30))
	}
}

// runsOwn runs of files whose list, names and texts no one else has; what is told, and where these stand.
func runsOwn(t *testing.T, workers int, l []api.File) ([]api.Outcome, weak.Pointer[api.File], []weak.Pointer[byte]) {
	t.Helper()
	var own []weak.Pointer[byte]
	mine := slices.Clone(l)
	for i := range mine {
		mine[i] = api.File{Name: strings.Clone(l[i].Name), Text: strings.Clone(l[i].Text)}
		own = append(own, weak.Make(unsafe.StringData(mine[i].Name)), weak.Make(unsafe.StringData(mine[i].Text)))
	}
	return run(t, workers, workers, mine), weak.Make(&mine[0]), own
}

// Neither the list nor a name nor a text is kept: what is told is new memory.
func TestR2NothingIsKept(t *testing.T) {
	great := "{" + strings.Repeat("great ", 200) + "}\n"
	l := []api.File{{Name: "a" + great, Text: formed + great}, {Name: "b" + great, Text: source + great}, {Name: "c" + great, Text: great + "?"}, {Name: "d" + great, Text: great}}
	for workers := 1; workers <= 16; workers++ {
		// What is formatted already is told anew, too.
		l[0].Text = formatted(t, workers, l[0].Text)
		told, list, own := runsOwn(t, workers, l)
		runtime.GC()
		if list.Value() != nil {
			t.Fatalf("%d workers: the files are kept", workers)
		}
		for i, p := range own {
			if p.Value() != nil {
				t.Fatalf("%d workers: text %d is kept", workers, i)
			}
		}
		if !told[0].Same || told[1].Same {
			t.Fatalf("%s, %s", word(told[0]), word(told[1]))
		}
		runtime.KeepAlive(told)
	}
}

// No panic comes out, and each call ends, whatever the bytes and the numbers are.
func TestR1AnyBytes(t *testing.T) {
	t.Parallel()
	r := rand.New(rand.NewPCG(21, 5))
	for range 400 {
		l := make([]api.File, r.IntN(40))
		for i := range l {
			b := make([]byte, r.IntN(30))
			for k := range b {
				b[k] = byte(r.IntN(256))
			}
			l[i] = api.File{Name: string(b), Text: "program p;begin skip end."[:r.IntN(26)] + string(b)}
		}
		width, workers := r.IntN(5000)-100, r.IntN(20)-2
		if width < 1 || width > 4096 || workers < 1 || workers > 16 {
			refuses(t, width, workers, l, api.ErrArg)
			continue
		}
		equals(t, run(t, width, workers, l), plainOutcomes(t, width, l))
	}
}
