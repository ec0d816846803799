package desk_test

import (
	"fmt"
	"regexp"
	"strconv"
	"strings"

	"colophon/api"
	"colophon/check"
	"colophon/doc"
	"colophon/driver"
	"colophon/format"
	"colophon/lex"
	"colophon/notes"
	"colophon/report"
	"colophon/samples"
)

// plainDesk is a desk the plain way: what each line tells stands in lines of its own, and is put together at the end. Sources
// are formatted by a driver, and their tokens are lex's.
type plainDesk struct {
	source string
	width  int
	kept   []string // one, or none
}

var (
	plainWord   = regexp.MustCompile(`^(format|check|tokens|layout|notes|strip|take|report|keep|same)$`)
	plainBlock  = regexp.MustCompile(`^(source|add)$`)
	plainNumber = regexp.MustCompile(`^(cut|drive|width|batch) (0|[1-9][0-9]{0,6})$`)
)

// plainMay says whether a line that stands in no block may be.
func plainMay(line string) bool {
	if line == "" || strings.HasPrefix(line, "#") || plainWord.MatchString(line) || plainBlock.MatchString(line) {
		return true
	}
	found := plainNumber.FindStringSubmatch(line)
	if found == nil {
		return false
	}
	n, _ := strconv.Atoi(found[2])
	return found[1] == "cut" || n > 0 && (found[1] == "drive" || found[1] == "width" && n <= 4096 || found[1] == "batch" && n <= 16)
}

// plainWrong is the first line of a script that may not be; 0: there is none.
func plainWrong(script string) int {
	lines := strings.Split(script, "\n")
	block := false
	for i, line := range lines {
		n := i + 1
		switch last := n == len(lines); {
		case last && line == "" && !block:
			return 0
		case n > 1000 || last:
			return n
		case block:
			block = line != "done"
		case !plainMay(line):
			return n
		default:
			block = plainBlock.MatchString(line)
		}
	}
	panic("no last line")
}

// plainRun tells what Run has to.
func plainRun(script string) answer {
	if len(script) > 65536 {
		return answer{code: api.ErrLong}
	}
	if n := plainWrong(script); n > 0 {
		return answer{code: api.ErrDeskLine, line: n}
	}
	d := plainDesk{width: 72}
	var all string
	lines := strings.SplitAfter(script, "\n")
	for i := 0; i < len(lines); i++ {
		line := strings.TrimSuffix(lines[i], "\n")
		if line == "" || line[0] == '#' {
			continue
		}
		n, block := i+1, ""
		if plainBlock.MatchString(line) {
			for i++; lines[i] != "done\n"; i++ {
				block += lines[i]
			}
		}
		for _, told := range append([]string{"> " + line}, d.do(line, block)...) {
			all += told + "\n"
		}
		if len(all) > 1048576 || len(d.source) > 262144 {
			return answer{code: api.ErrLong, line: n}
		}
	}
	return answer{told: all}
}

// do does a line, and tells what it does.
func (d *plainDesk) do(line, block string) []string {
	word, digits, _ := strings.Cut(line, " ")
	n, _ := strconv.Atoi(digits)
	switch word {
	case "source":
		d.source = block
	case "add":
		d.source += block
	case "cut":
		for ; n > 0 && d.source != ""; n-- {
			d.source = d.source[:len(d.source)-1]
		}
	case "width":
		d.width = n
	case "keep":
		d.kept = []string{d.source}
		return []string{fmt.Sprint("kept ", len(d.source))}
	case "strip":
		return d.become(notes.Strip(d.source))
	case "take":
		text, _, err := d.formatted(d.source)
		return d.become(text, err)
	case "batch":
		return d.batch()
	default:
		return d.ask(word, n)
	}
	return []string{"ok"}
}

// ask tells what a line tells that changes nothing.
func (d *plainDesk) ask(word string, n int) []string {
	switch word {
	case "format":
		text, _, err := d.formatted(d.source)
		return plainMoved(text, err)
	case "drive":
		return d.drive(n)
	case "check":
		_, same, err := d.formatted(d.source)
		return plainYes(same, err)
	case "tokens":
		return d.tokens()
	case "layout":
		l, err := format.Layout(d.source)
		text, _ := doc.Print(l)
		return plainMoved(text, err)
	case "notes":
		return d.notes()
	case "report":
		_, _, err := d.formatted(d.source)
		if err == nil {
			return []string{"fine"}
		}
		return plainMoved(report.Show("source", d.source, err), nil)
	case "same":
		if d.kept == nil {
			return []string{"none"}
		}
		return plainYes(check.Same(d.kept[0], d.source))
	}
	panic(word)
}

// formatted is what a driver tells of a source that it has in one chunk; what it tells ahead of an error stands beside that.
func (d *plainDesk) formatted(source string) (string, bool, error) {
	one := d.driver()
	text, err := one.Feed(source)
	if err != nil {
		return text, false, err
	}
	rest, same, err := one.Close()
	return text + rest, same, err
}

func (d *plainDesk) driver() *driver.Driver {
	one, err := driver.New(api.Options{Width: d.width})
	if err != nil {
		panic(err)
	}
	return one
}

// drive has all up to the end of each chunk driven at once: a call tells what that tells more.
func (d *plainDesk) drive(n int) []string {
	var counts []string
	told := 0
	count := func(text string) {
		counts = append(counts, strconv.Itoa(len(text)-told))
		told = len(text)
	}
	for from := 0; from < len(d.source); from += n {
		text, err := d.driver().Feed(d.source[:min(len(d.source), from+n)])
		count(text)
		if err != nil {
			return []string{strings.Join(counts, " "), plainError(err)}
		}
	}
	text, same, err := d.formatted(d.source)
	count(text)
	return append([]string{strings.Join(counts, " ")}, plainYes(same, err)...)
}

func (d *plainDesk) tokens() []string {
	l := lex.New()
	all, code, at := l.Feed(d.source)
	if code == api.OK {
		var rest []api.Tok
		rest, code, at = l.Close()
		all = append(all, rest...)
	}
	if code != api.OK {
		return []string{plainError(&api.Fault{Code: code, Place: at})}
	}
	var told []string
	for _, tok := range all {
		told = append(told, fmt.Sprintf("  %d %d %d %d %d", tok.Kind, tok.Place.Line, tok.Place.Column, tok.Feeds, len(tok.Text)))
	}
	return append(told, fmt.Sprintf("tokens %d", len(all)))
}

func (d *plainDesk) notes() []string {
	all, err := notes.Of(d.source)
	if err != nil {
		return []string{plainError(err)}
	}
	var told []string
	for _, r := range all {
		told = append(told, fmt.Sprintf("  %d %s %d", r.Ahead, map[bool]string{true: "behind", false: "alone"}[r.Behind], len(r.Text)))
	}
	return append(told, fmt.Sprintf("notes %d", len(all)))
}

func (d *plainDesk) batch() []string {
	var told []string
	for i, source := range append([]string{d.source}, d.kept...) {
		_, same, err := d.formatted(source)
		told = append(told, "  "+"ab"[i:i+1]+" "+map[string]string{"yes": "same", "no": "other"}[plainYes(same, err)[0]])
		if err != nil {
			told[i] += "wrong"
		}
	}
	return told
}

func (d *plainDesk) become(text string, err error) []string {
	if err != nil {
		return []string{plainError(err)}
	}
	d.source = text
	return []string{"ok"}
}

// plainMoved are the lines of a text, each behind two blanks.
func plainMoved(text string, err error) []string {
	if err != nil {
		return []string{plainError(err)}
	}
	var told []string
	for text != "" {
		line, rest, _ := strings.Cut(text, "\n")
		told, text = append(told, "  "+line), rest
	}
	return told
}

func plainYes(yes bool, err error) []string {
	switch {
	case err != nil:
		return []string{plainError(err)}
	case yes:
		return []string{"yes"}
	}
	return []string{"no"}
}

// plainError tells an error of which samples holds that it is a Fault, as the document has it found.
func plainError(err error) string {
	if word := samples.FaultWord(err); strings.HasPrefix(word, "no") {
		return word
	}
	f := err.(*api.Fault)
	return fmt.Sprintf("error %d at %d:%d", int(f.Code), f.Place.Line, f.Place.Column)
}
