package parse_test

import (
	"math/rand/v2"
	"testing"

	"colophon/api"
	"colophon/grammar"
	"colophon/samples"
)

// All rows of few tokens, whatever they are, up to the first one that can't stand.
func TestP12_2AllRowsOfFewTokens(t *testing.T) {
	t.Parallel()
	rows, good := growing(t, grammar.New(), nil, 9)
	if good < 20000 || rows < 5*good {
		t.Errorf("%d rows, of which %d begin a program", rows, good)
	}
}

// Behind each beginning of some programs, all rows of two tokens more.
func TestP12_2AllRowsBehindTheForms(t *testing.T) {
	t.Parallel()
	g := grammar.New()
	for _, source := range samples.Programs() {
		l := tokens(source)
		for i := range l {
			growing(t, g, l[:i+1], 2)
		}
	}
}

// Of a program, and of each beginning of it, all calls.
func TestP12_3EachBeginningOfAProgram(t *testing.T) {
	t.Parallel()
	g := grammar.New()
	r := rand.New(rand.NewPCG(12, 2))
	programs := [][]api.Tok{}
	for _, source := range samples.Programs() {
		programs = append(programs, tokens(source))
	}
	for size := range 40 {
		programs = append(programs, g.Some(r.IntN, 3*size))
	}
	for _, l := range programs {
		for i := range len(l) + 1 {
			courseOf(t, g, l[:i]).holds(t)
		}
	}
}

// Longer ones, and what stands behind a program.
func TestP12_2SomePrograms(t *testing.T) {
	g := grammar.New()
	r := rand.New(rand.NewPCG(12, 3))
	for size := range 100 {
		l := g.Some(r.IntN, 15*size)
		c := courseOf(t, g, l)
		c.holds(t)
		if c.close.code != api.OK {
			t.Fatalf("no program: %s", texts(l))
		}
		p := behind(t, l)
		p.Put(sorts(g)[r.IntN(len(sorts(g)))])
		isStuck(t, p, api.ErrParseTok, 1)
	}
}

// One token of a program is another, is left out or stands there twice: the first that can't stand is told, and no other.
func TestP12_2SomeWrongPrograms(t *testing.T) {
	g := grammar.New()
	r := rand.New(rand.NewPCG(12, 4))
	words := sorts(g)
	wrong := 0
	for range 2000 {
		l := g.Some(r.IntN, 30)
		at := r.IntN(len(l))
		was := l[at]
		l[at] = words[r.IntN(len(words))]
		switch r.IntN(3) {
		case 0:
			l = append(l[:at], l[at+1:]...)
		case 1:
			l = append(append(append([]api.Tok{}, l[:at]...), was), l[at:]...)
		}
		good := at
		for good < len(l) && g.Begins(l[:good+1]) {
			good++
		}
		courseOf(t, g, l[:good]).holds(t)
		if good == len(l) {
			continue
		}
		wrong++
		p := behind(t, l[:good])
		depth := p.Depth()
		p.Put(l[good])
		isStuck(t, p, api.ErrParseTok, depth)
	}
	if wrong < 1000 {
		t.Errorf("just %d are wrong", wrong)
	}
}
