package desk_test

import (
	"fmt"
	"strings"
	"testing"

	"colophon/api"
	"colophon/desk"
	"colophon/samples"
)

// source is a program, and formed is what Format tells of it.
const (
	source = "program p;begin skip end.\n"
	formed = "program p;\nbegin\n  skip\nend.\n"
)

// answer is what Run tells.
type answer struct {
	told string
	code api.Errno
	line int
}

func (a answer) String() string {
	return fmt.Sprint(samples.Short(a.told), " ", int(a.code), " ", a.line)
}

// run is what Run tells of a script.
func run(script string) answer {
	told, code, line := desk.Run(script)
	return answer{told, code, line}
}

// told is what a script tells that has no error.
func told(t *testing.T, script string) string {
	t.Helper()
	got := run(script)
	if got.code != api.OK || got.line != 0 {
		t.Fatalf("%s: %v", samples.Short(script), got)
	}
	return got.told
}

// tells holds what a script tells.
func tells(t *testing.T, script, want string) {
	t.Helper()
	if got := run(script); got != (answer{told: want}) {
		t.Errorf("%s: %v, not %s", samples.Short(script), got, samples.Short(want))
	}
}

// refuses holds that a script is refused at a line, and that nothing is told.
func refuses(t *testing.T, script string, code api.Errno, line int) {
	t.Helper()
	if got := run(script); got != (answer{code: code, line: line}) {
		t.Errorf("%s: %v, not %d at %d", samples.Short(script), got, code, line)
	}
}

// of is a script's lines that make a text the source; the text's last line has an end.
func of(text string) string { return "source\n" + text + "done\n" }

// does holds what a line tells of a source.
func does(t *testing.T, text, line string, want ...string) {
	t.Helper()
	tells(t, of(text)+line+"\n", "> source\nok\n> "+line+"\n"+strings.Join(append(want, ""), "\n"))
}

// feeds is how many line feeds a script has.
func feeds(script string) int { return strings.Count(script, "\n") }
