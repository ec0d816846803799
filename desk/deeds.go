package desk

import (
	"strconv"

	"colophon/api"
	"colophon/batch"
	"colophon/check"
	"colophon/doc"
	"colophon/driver"
	"colophon/format"
	"colophon/notes"
	"colophon/report"
	"colophon/scan"
)

// deed is what a line does to a desk; with what its call refuses.
type deed func(d *desk, l line) error

// deeds are those that lines ask for, by their words.
func deeds() map[string]deed {
	return map[string]deed{
		"source": (*desk).source,
		"add":    (*desk).add,
		"cut":    (*desk).cut,
		"width":  (*desk).width,
		"format": (*desk).format,
		"drive":  (*desk).drive,
		"check":  (*desk).check,
		"tokens": (*desk).tokens,
		"layout": (*desk).layout,
		"notes":  (*desk).notes,
		"strip":  (*desk).strip,
		"take":   (*desk).take,
		"report": (*desk).report,
		"keep":   (*desk).keep,
		"same":   (*desk).same,
		"batch":  (*desk).batch,
	}
}

func (d *desk) source(l line) error { return d.become(l.block, nil) }

func (d *desk) add(l line) error { return d.become(d.text+l.block, nil) }

func (d *desk) cut(l line) error { return d.become(d.text[:max(0, len(d.text)-l.n)], nil) }

func (d *desk) strip(line) error { return d.become(notes.Strip(d.text)) }

func (d *desk) take(line) error { return d.become(format.Format(d.columns, d.text)) }

func (d *desk) width(l line) error {
	d.columns = l.n
	d.tell("ok")
	return nil
}

func (d *desk) format(line) error { return d.show(format.Format(d.columns, d.text)) }

func (d *desk) layout(line) error {
	l, err := format.Layout(d.text)
	if err != nil {
		return err
	}
	text, code := doc.Print(l)
	return d.show(text, fault(code, api.Place{}))
}

func (d *desk) report(line) error {
	_, err := format.Format(d.columns, d.text)
	if err == nil {
		d.tell("fine")
		return nil
	}
	return d.show(report.Show("source", d.text, err), nil)
}

// drive tells how many bytes each call told, that which is refused among them, ahead of what is wrong.
func (d *desk) drive(l line) error {
	told, same, err := driven(d.columns, d.text, l.n)
	d.tell(numbers(told...))
	return d.answer(same, err)
}

// driven is how many bytes each call of a driver tells of a source in chunks of so many bytes, and what its Close answers;
// or what is wrong, behind the call that is refused.
func driven(width int, source string, size int) (told []int, same bool, err error) {
	d, err := driver.New(api.Options{Width: width})
	if err != nil {
		return nil, false, err
	}
	for source != "" {
		n := min(size, len(source))
		text, err := d.Feed(source[:n])
		told = append(told, len(text))
		if err != nil {
			return told, false, err
		}
		source = source[n:]
	}
	text, same, err := d.Close()
	return append(told, len(text)), same, err
}

func (d *desk) check(line) error { return d.answer(check.Is(d.columns, d.text)) }

func (d *desk) same(line) error {
	if !d.keeps {
		d.tell("none")
		return nil
	}
	return d.answer(check.Same(d.kept, d.text))
}

func (d *desk) tokens(line) error {
	l, code, at := scan.All(d.text)
	if code != api.OK {
		return fault(code, at)
	}
	for _, t := range l {
		d.tell("  ", numbers(int(t.Kind), t.Place.Line, t.Place.Column, t.Feeds, len(t.Text)))
	}
	d.tell("tokens ", strconv.Itoa(len(l)))
	return nil
}

func (d *desk) notes(line) error {
	l, err := notes.Of(d.text)
	if err != nil {
		return err
	}
	for _, r := range l {
		where := " alone "
		if r.Behind {
			where = " behind "
		}
		d.tell("  ", strconv.Itoa(r.Ahead), where, strconv.Itoa(len(r.Text)))
	}
	d.tell("notes ", strconv.Itoa(len(l)))
	return nil
}

func (d *desk) keep(line) error {
	d.kept, d.keeps = d.text, true
	d.tell("kept ", strconv.Itoa(len(d.kept)))
	return nil
}

func (d *desk) batch(l line) error {
	files := []api.File{{Name: "a", Text: d.text}}
	if d.keeps {
		files = append(files, api.File{Name: "b", Text: d.kept})
	}
	outcomes, code := batch.Run(d.columns, l.n, files)
	if code != api.OK {
		return fault(code, api.Place{})
	}
	for _, o := range outcomes {
		d.tell("  ", o.Name, " ", outcomeWord(o))
	}
	return nil
}

func outcomeWord(o api.Outcome) string {
	switch {
	case o.Fault.Code != api.OK:
		return "wrong"
	case o.Same:
		return "same"
	}
	return "other"
}
