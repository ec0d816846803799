package batch_test

import (
	"errors"
	"testing"

	"colophon/api"
	"colophon/check"
	"colophon/driver"
)

// plainOutcomes tells what Run has to a second way: the files one behind the other, each by a driver, and by check whether
// it is formatted already.
func plainOutcomes(t *testing.T, width int, l []api.File) []api.Outcome {
	t.Helper()
	var all []api.Outcome
	for _, f := range l {
		all = append(all, plainOutcome(t, width, f))
	}
	return all
}

func plainOutcome(t *testing.T, width int, f api.File) api.Outcome {
	t.Helper()
	if len(f.Text) > api.MaxText {
		return bad(f.Name, api.ErrLong, 0, 0, 0)
	}
	text, same, err := drive(width, f.Text)
	is, no := check.Is(width, f.Text)
	if is != same || (err == nil) != (no == nil) {
		t.Fatalf("%s: a driver tells %v, %v, and check %v, %v", f.Name, same, err, is, no)
	}
	if err == nil {
		return good(f.Name, text, same)
	}
	var refused *api.Fault
	if !errors.As(err, &refused) {
		t.Fatalf("%s: %v is no Fault", f.Name, err)
	}
	return api.Outcome{Name: f.Name, Fault: *refused}
}

// drive formats a source chunk by chunk.
func drive(width int, source string) (string, bool, error) {
	d, err := driver.New(api.Options{Width: width})
	if err != nil {
		return "", false, err
	}
	var told string
	for len(source) > 0 {
		size := min(len(source), 1000)
		text, err := d.Feed(source[:size])
		if err != nil {
			return "", false, err
		}
		told += text
		source = source[size:]
	}
	text, same, err := d.Close()
	return told + text, same, err
}
