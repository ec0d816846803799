package batch_test

import (
	"math/rand/v2"
	"slices"
	"testing"

	"colophon/api"
)

// One worker or sixteen: the outcomes are the same, of few files and of many.
func TestP21_2HowManyWorkers(t *testing.T) {
	t.Parallel()
	r := rand.New(rand.NewPCG(21, 2))
	for _, size := range []int{1, 2, 3, 5, 10, 17, 60, 256} {
		l := someFiles(t, r, 40, size)
		want := plainOutcomes(t, 40, l)
		for workers := 1; workers <= 16; workers++ {
			equals(t, run(t, 40, workers, l), want)
		}
	}
}

// Each file by itself has the outcome that it has among the others, and so it has among some of them.
func TestP21_2WhichOtherFiles(t *testing.T) {
	t.Parallel()
	r := rand.New(rand.NewPCG(21, 3))
	l := someFiles(t, r, 30, 80)
	want := run(t, 30, 4, l)
	for i := range l {
		equals(t, run(t, 30, 1+r.IntN(16), l[i:i+1]), want[i:i+1])
	}
	for range 60 {
		from := r.IntN(len(l))
		to := from + r.IntN(len(l)-from+1)
		equals(t, run(t, 30, 1+r.IntN(16), l[from:to]), want[from:to])
	}
}

// In another order of the files the outcomes have that order.
func TestP21_2WhateverTheirOrder(t *testing.T) {
	t.Parallel()
	r := rand.New(rand.NewPCG(21, 4))
	l := someFiles(t, r, 50, 60)
	want := run(t, 50, 1, l)
	for range 30 {
		r.Shuffle(len(l), func(i, j int) {
			l[i], l[j] = l[j], l[i]
			want[i], want[j] = want[j], want[i]
		})
		equals(t, run(t, 50, 1+r.IntN(16), l), want)
	}
	slices.Reverse(l)
	slices.Reverse(want)
	equals(t, run(t, 50, 16, l), want)
}

// One file among many that are wrong, or that are as long as may be.
func TestP21_2OneAmongOthers(t *testing.T) {
	for _, other := range []api.File{{}, {Name: "a", Text: "?"}, {Name: "b", Text: formed}, {Name: "c", Text: "program p;begin a:=((((((("}} {
		want := run(t, 72, 1, []api.File{other})[0]
		for _, at := range []int{0, 1, 100, 254, 255} {
			l, told := slices.Repeat([]api.File{other}, 256), slices.Repeat([]api.Outcome{want}, 256)
			l[at], told[at] = api.File{Name: "a", Text: source}, good("a", formed, false)
			holds(t, 72, l, told)
		}
	}
}
