package desk_test

import (
	"math/rand/v2"
	"slices"
	"strconv"
	"strings"
	"testing"

	"colophon/api"
	"colophon/grammar"
	"colophon/samples"
)

// asPlain holds what Run tells of a script against the plain way.
func asPlain(t *testing.T, script string) answer {
	t.Helper()
	got, want := run(script), plainRun(script)
	if got != want {
		t.Fatalf("%s: %v, not %v", samples.Short(script), got, want)
	}
	return got
}

// scripts makes some, each of lines that follow one another as they come.
type scripts struct {
	r       *rand.Rand
	program *grammar.Grammar
	wrong   []samples.Wrong
}

func newScripts(seed uint64) *scripts {
	long := func(w samples.Wrong) bool { return len(w.Source) > 2000 }
	return &scripts{rand.New(rand.NewPCG(22, seed)), grammar.New(), slices.DeleteFunc(samples.Wrongs(), long)}
}

// some is a script of so many lines and blocks, all of which may be.
func (s *scripts) some(lines int) string {
	var b strings.Builder
	for range lines {
		b.WriteString(s.line() + "\n")
	}
	return b.String()
}

func (s *scripts) line() string {
	words := strings.Fields("source source source add cut width format format drive drive check tokens layout notes strip take take take report keep keep same batch batch batch # empty")
	switch word := words[s.r.IntN(len(words))]; word {
	case "source":
		return word + "\n" + s.block() + "done"
	case "add":
		return word + "\n" + []string{"", "\n", "{x}\n", "// y\n", ".\n", "\xa5'\n"}[s.r.IntN(6)] + "done"
	case "cut":
		return "cut " + strconv.Itoa([]int{0, 1, 2, s.r.IntN(40), 9999999}[s.r.IntN(5)])
	case "drive":
		return "drive " + strconv.Itoa([]int{1, 2 + s.r.IntN(40), 9999999}[s.r.IntN(3)])
	case "width":
		return "width " + strconv.Itoa([]int{1, 1 + s.r.IntN(60), 72, 4096}[s.r.IntN(4)])
	case "batch":
		return "batch " + strconv.Itoa(1+s.r.IntN(16))
	case "#":
		return "# " + wrongLines()[s.r.IntN(20)]
	case "empty":
		return ""
	default:
		return word
	}
}

// block is a source's text: a program, formatted or not, one cut off, one that is wrong, or any tokens. Its last line has an
// end.
func (s *scripts) block() string {
	text := ""
	switch s.r.IntN(8) {
	case 0:
		text = s.wrong[s.r.IntN(len(s.wrong))].Source
	case 1:
		text = samples.SomeSource(s.r.IntN, s.r.IntN(30))
	case 2:
		x := samples.Examples()
		text = strings.TrimSuffix(x[s.r.IntN(len(x))].Want, "\n")
	case 3:
		text = samples.SomeGapped(s.r.IntN, s.program.Some(s.r.IntN, s.r.IntN(40)))
		text = text[:s.r.IntN(len(text)+1)]
	default:
		text = samples.SomeGapped(s.r.IntN, s.program.Some(s.r.IntN, s.r.IntN(40)))
	}
	return text + "\n"
}

// Scripts of any lines, all of which may be, against the plain way.
func TestP22_1SomeScripts(t *testing.T) {
	t.Parallel()
	s := newScripts(1)
	var all strings.Builder
	for range 600 {
		// Some have more than 1000 lines.
		all.WriteString("\n" + asPlain(t, s.some(1+s.r.IntN(30))).told)
	}
	for _, word := range []string{"error ", "yes", "no", "ok", "none", "kept 0", "fine", "  a same", "  a other", "  a wrong", "  b same", "  b other", "  b wrong", "tokens 0", "notes 0", "  source: ", "  text program"} {
		if n := strings.Count(all.String(), "\n"+word); n < 20 {
			t.Errorf("%q is told %d times", word, n)
		}
	}
}

// Such scripts with some bytes of them changed, gone or new: most may not be.
func TestP22_1SomeWrongScripts(t *testing.T) {
	t.Parallel()
	s := newScripts(2)
	met := map[api.Errno]int{}
	for range 3000 {
		script := []byte(s.some(1 + s.r.IntN(8)))
		for range 1 + s.r.IntN(3) {
			at := s.r.IntN(len(script))
			with := []string{"", "x", " ", "\n", "0", "done\n", "\ndone", "source\n", "\xff", "\t"}[s.r.IntN(10)]
			script = slices.Concat(script[:at], []byte(with), script[at+s.r.IntN(2):], []byte("\n"))
		}
		if s.r.IntN(5) == 0 {
			script = script[:s.r.IntN(len(script)+1)]
		}
		met[asPlain(t, string(script)).code]++
	}
	if met[api.OK] < 300 || met[api.ErrDeskLine] < 300 {
		t.Errorf("%v: too few of one sort", met)
	}
}

// All scripts of few lines, of those that change what others tell.
func TestP22_1AllShortScripts(t *testing.T) {
	t.Parallel()
	lines := []string{of(source), "add\n{x}\ndone\n", "cut 1\n", "width 8\n", "take\n", "strip\n", "keep\n", "same\n", "sing\n", "source\n", "done\n", "\n", "format", "keep"}
	for script := range samples.Texts(lines, 4) {
		asPlain(t, script)
		asPlain(t, "source\nprogram p;begin x:=a+b end.\ndone\n"+script+"check\nformat\nkeep\n")
	}
}
