package desk_test

import (
	"strings"
	"testing"

	"colophon/api"
	"colophon/samples"
)

// beginnings are those of a script at each line at which it stands in no block, itself among them.
func beginnings(script string) []string {
	var all []string
	now, block := "", false
	for line := range strings.Lines(script) {
		if !block {
			all = append(all, now)
		}
		block = block && line != "done\n" || !block && (line == "source\n" || line == "add\n")
		now += line
	}
	return append(all, now)
}

// goesOn holds that what is told of a script's beginnings is a beginning of what is told of it: each that does more tells
// more, from a line that it does on.
func goesOn(t *testing.T, script string) {
	t.Helper()
	ahead, all := "", told(t, script)
	for _, begun := range beginnings(script) {
		now := told(t, begun)
		more, ok := strings.CutPrefix(now, ahead)
		if !ok || more != "" && !strings.HasPrefix(more, "> ") || !strings.HasPrefix(all, now) {
			t.Fatalf("%s: %s, and of its beginning %s: %s", samples.Short(script), samples.Short(all), samples.Short(begun), samples.Short(now))
		}
		ahead = now
	}
	if ahead != all {
		t.Fatalf("%s: %s, and again %s", samples.Short(script), samples.Short(all), samples.Short(ahead))
	}
}

func TestP22_2Examples(t *testing.T) {
	for _, x := range examples() {
		goesOn(t, x.script)
	}
	goesOn(t, "")
}

func TestP22_2SomeScripts(t *testing.T) {
	t.Parallel()
	s := newScripts(3)
	for range 150 {
		if script := s.some(1 + s.r.IntN(12)); feeds(script) <= 1000 {
			goesOn(t, script)
		}
	}
}

// The first lines tell the same ahead of each line, be it one that changes what stands there.
func TestP22_2EveryLineBehind(t *testing.T) {
	t.Parallel()
	for _, x := range examples() {
		for _, line := range rightLines() {
			if got := told(t, x.script+line+"\n"); !strings.HasPrefix(got, x.told) {
				t.Errorf("%s behind %q: %q", x.about, line, got)
			}
			for _, begun := range beginnings(x.script) {
				if got := told(t, begun+line+"\n"); !strings.HasPrefix(got, told(t, begun)) {
					t.Errorf("%q behind %q: %q", line, begun, got)
				}
			}
		}
	}
}

// Two scripts that begin alike tell the same of that.
func TestP22_2TwoThatBeginAlike(t *testing.T) {
	t.Parallel()
	s := newScripts(4)
	for range 150 {
		begun := s.some(1 + s.r.IntN(8))
		for range 3 {
			if script := begun + s.some(s.r.IntN(6)); feeds(script) <= 1000 && !strings.HasPrefix(told(t, script), told(t, begun)) {
				t.Fatalf("%q and %q", begun, script)
			}
		}
	}
}

// Which line is told of too much does not hang on those behind it, as long as these may be.
func TestP22_2WhereItIsTooMuch(t *testing.T) {
	t.Parallel()
	for script, at := range map[string]int{filler(t, api.MaxTold) + "#\nkeep\n": feeds(filler(t, api.MaxTold)) + 2, of(grown(t, api.MaxText+1)) + "take\n": 4} {
		for _, line := range rightLines() {
			refuses(t, script+line+"\n", api.ErrLong, at)
		}
		refuses(t, script+of("")+"width 1\nkeep\n", api.ErrLong, at)
	}
}
