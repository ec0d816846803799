package driver_test

import (
	"errors"
	"testing"

	"colophon/api"
	"colophon/driver"
	"colophon/samples"
)

// With Check nothing is told as text, beside an error neither; errors, places and whether all is the same are as without.
func TestP17_4Check(t *testing.T) {
	const done = "program p;\nbegin\n  skip\nend.\n"
	for _, c := range []struct {
		chunks []string
		want   []answer
	}{
		{[]string{"program p;\nbe", "gin\n  skip\nend.\n"}, []answer{told(""), told(""), {same: true}, refused("", "ErrDone at 0 0:0")}},
		{[]string{done, " "}, []answer{told(""), told(""), told(""), refused("", "ErrDone at 0 0:0")}},
		{[]string{done, "{c}"}, []answer{told(""), told(""), told(""), refused("", "ErrDone at 0 0:0")}},
		{[]string{done + "\n{c}\n"}, []answer{told(""), {same: true}, refused("", "ErrDone at 0 0:0")}},
		{[]string{head + "end."}, []answer{told(""), told(""), refused("", "ErrDone at 0 0:0")}},
		{[]string{"program p;begin skip;; ", "end."}, []answer{refused("", "ErrParseTok at 21 1:22"), refused("", "ErrParseTok at 21 1:22"), refused("", "ErrParseTok at 21 1:22")}},
		{[]string{head, "?"}, []answer{told(""), refused("", "ErrScanByte at 21 1:22"), refused("", "ErrScanByte at 21 1:22")}},
		{[]string{head}, []answer{told(""), refused("", "ErrParseEnd at 21 1:22"), refused("", "ErrParseEnd at 21 1:22")}},
		{[]string{head, "{"}, []answer{told(""), told(""), refused("", "ErrScanOpen at 21 1:22"), refused("", "ErrScanOpen at 21 1:22")}},
	} {
		d := made(t, api.Options{Width: 72, Check: true})
		for i, want := range c.want {
			got := answer{}
			if i < len(c.chunks) {
				got = fed(d, c.chunks[i])
			} else {
				got = closed(d)
			}
			if got != want {
				t.Errorf("%q, call %d: %s, not %s", c.chunks, i+1, got, want)
			}
		}
	}
}

// One that is broken tells the same Fault by every call, however it was broken.
func TestP17_4Broken(t *testing.T) {
	for _, c := range []struct{ source, want string }{
		{"; ", "ErrParseTok at 0 1:1"}, {"?", "ErrScanByte at 0 1:1"}, {head + "\n\u65e5?", "ErrParseTok at 22 2:1"}, {head + "'a\n", "ErrScanOpen at 21 1:22"}, {head + ";a:=\n''", "ErrScanText at 27 2:2"},
	} {
		for _, check := range []bool{false, true} {
			d := made(t, api.Options{Width: 72, Check: check})
			fed(d, c.source)
			stays(t, d, c.want)
		}
	}
	for _, c := range []struct{ source, want string }{
		{"", "ErrParseEnd at 0 1:1"}, {";", "ErrParseTok at 0 1:1"}, {head + "\n{", "ErrScanOpen at 22 2:1"}, {head + "\n \xc3", "ErrScanByte at 23 2:2"}, {head + "\n ", "ErrParseEnd at 23 2:2"},
	} {
		for _, check := range []bool{false, true} {
			d := made(t, api.Options{Width: 72, Check: check})
			if got := fed(d, c.source); got.wrong != "" {
				t.Errorf("%q: %s", c.source, got)
			}
			closed(d)
			stays(t, d, c.want)
		}
	}
}

// One that is closed takes nothing more, be what it was fed formatted or not.
func TestP17_4Closed(t *testing.T) {
	for _, source := range []string{head + "end.", "program p;\nbegin\n  skip\nend.\n", "program p;\nbegin\n  skip\nend. // c"} {
		for _, check := range []bool{false, true} {
			d := made(t, api.Options{Width: 72, Check: check})
			fed(d, source)
			if got := closed(d); got.wrong != "" {
				t.Error(got)
			}
			stays(t, d, "ErrDone at 0 0:0")
		}
	}
}

func TestR2NilDriver(t *testing.T) {
	var none *driver.Driver
	stays(t, none, "ErrNil at 0 0:0")
	if _, err := none.Feed("?"); !errors.Is(err, api.ErrNil) {
		t.Error(err)
	}
}

// A driver that New did not make is none; its calls end all the same.
func TestR1ADriverThatNewDidNotMake(t *testing.T) {
	for _, s := range []string{"", "program p;begin skip end.", "?", ";", "\xc3"} {
		if got := fed(new(driver.Driver), s); got.text != "" || got.wrong == "" {
			t.Errorf("%q: %s", s, got)
		}
	}
	if got := closed(new(driver.Driver)); got.text != "" || got.same || got.wrong == "" {
		t.Error(got)
	}
}

// A Fault is another one each time: what is written into it is seen in no other.
func TestR2AFaultIsAnotherOneEachTime(t *testing.T) {
	feeds := func(d *driver.Driver) error { _, err := d.Feed(""); return err }
	closes := func(d *driver.Driver) error { _, _, err := d.Close(); return err }
	for _, source := range []string{"?", ";", "; ", "program p", "program p;begin skip end."} {
		d := made(t, api.Options{Width: 72})
		_, first := d.Feed(source)
		_, _, second := d.Close()
		_, _, third := d.Close()
		want := samples.FaultWord(third)
		for _, err := range []error{first, second, third} {
			if f, ok := err.(*api.Fault); ok {
				*f = api.Fault{Code: 99, Place: api.Place{At: 98, Line: 97, Column: 96}}
			}
		}
		for _, call := range []func(*driver.Driver) error{feeds, closes, feeds} {
			err := call(d)
			if got := samples.FaultWord(err); got != want {
				t.Errorf("%q: %s, not %s", source, got, want)
			}
			*(err.(*api.Fault)) = api.Fault{Code: 99}
		}
	}
	_, first := driver.New(api.Options{})
	*(first.(*api.Fault)) = api.Fault{Code: 99}
	if _, err := driver.New(api.Options{}); samples.FaultWord(err) != "error 1 at 0 0:0" {
		t.Error(err)
	}
	if first, second := feeds(nil), feeds(nil); first == second || closes(nil) == first {
		t.Error("one Fault for all")
	}
}
