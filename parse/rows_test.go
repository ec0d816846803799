package parse_test

import (
	"math/rand/v2"
	"testing"

	"colophon/api"
	"colophon/grammar"
)

// All rows of few tokens, whatever they are, up to the first one that can't stand.
func TestP12_2AllRowsOfFewTokens(t *testing.T) {
	t.Parallel()
	rows, good := growing(t, grammar.New(), nil, 9)
	if good < 20000 || rows < 5*good {
		t.Errorf("%d rows, of which %d begin a program", rows, good)
	}
}

// forms are programs that have all of the grammar's forms together, most of them in their shortest shape.
func forms() []string {
	return []string{
		"program p;begin skip end.",
		"program p;var a,b:t;const c=1;proc f;begin skip end;begin f end.",
		"program p;proc f(a,b:t;c:u):v;begin return end;proc g:v;begin return 1 end;begin skip;skip end.",
		"program p;var a:array[1..2]of array[b..c]of t;var a:record b,c:t;d:record e:u end end;begin skip end.",
		"program p;begin a;a:=b;a[1,2].b(c,d)();a.b.c:=d[e] end.",
		"program p;begin if a then skip elif b then skip elif c then skip else skip end;if a then skip end end.",
		"program p;begin while a do skip;skip end;for i:=1 to 2 do skip end;repeat skip until a;begin skip end end.",
		"program p;begin a:=-b*not c/(d)%\"t\"+'c'-e=f+g and h or i<j end.",
	}
}

// Behind each beginning of these, all rows of two tokens more.
func TestP12_2AllRowsBehindTheForms(t *testing.T) {
	t.Parallel()
	g := grammar.New()
	for _, source := range forms() {
		l := tokens(source)
		for i := range l {
			growing(t, g, l[:i+1], 2)
		}
	}
}

// Of a program, and of each beginning of it, all calls.
func TestP12_3EachBeginningOfAProgram(t *testing.T) {
	t.Parallel()
	g := grammar.New()
	r := rand.New(rand.NewPCG(12, 2))
	programs := [][]api.Tok{}
	for _, source := range forms() {
		programs = append(programs, tokens(source))
	}
	for size := range 40 {
		programs = append(programs, g.Some(r.IntN, 3*size))
	}
	for _, l := range programs {
		for i := range len(l) + 1 {
			courseOf(t, g, l[:i]).holds(t)
		}
	}
}

// Longer ones, and what stands behind a program.
func TestP12_2SomePrograms(t *testing.T) {
	g := grammar.New()
	r := rand.New(rand.NewPCG(12, 3))
	for size := range 100 {
		l := g.Some(r.IntN, 15*size)
		c := courseOf(t, g, l)
		c.holds(t)
		if c.close.code != api.OK {
			t.Fatalf("no program: %s", texts(l))
		}
		p := behind(t, l)
		p.Put(sorts(g)[r.IntN(len(sorts(g)))])
		isStuck(t, p, api.ErrParseTok, 1)
	}
}

// One token of a program is another, is left out or stands there twice: the first that can't stand is told, and no other.
func TestP12_2SomeWrongPrograms(t *testing.T) {
	g := grammar.New()
	r := rand.New(rand.NewPCG(12, 4))
	words := sorts(g)
	wrong := 0
	for range 2000 {
		l := g.Some(r.IntN, 30)
		at := r.IntN(len(l))
		was := l[at]
		l[at] = words[r.IntN(len(words))]
		switch r.IntN(3) {
		case 0:
			l = append(l[:at], l[at+1:]...)
		case 1:
			l = append(append(append([]api.Tok{}, l[:at]...), was), l[at:]...)
		}
		good := at
		for good < len(l) && g.Begins(l[:good+1]) {
			good++
		}
		courseOf(t, g, l[:good]).holds(t)
		if good == len(l) {
			continue
		}
		wrong++
		p := behind(t, l[:good])
		depth := p.Depth()
		p.Put(l[good])
		isStuck(t, p, api.ErrParseTok, depth)
	}
	if wrong < 1000 {
		t.Errorf("just %d are wrong", wrong)
	}
}
