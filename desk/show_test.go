package desk

import (
	"errors"
	"testing"

	"colophon/api"
)

// The lines of a text that is told: no call that desk asks tells one that has no line feed at its end, so this is held from
// within.
func TestP22_1LinesOfAText(t *testing.T) {
	for text, want := range map[string]string{
		"":           "",
		"\n":         "  \n",
		"a":          "  a\n",
		"a\n":        "  a\n",
		"a\nb":       "  a\n  b\n",
		"a\nb\n":     "  a\n  b\n",
		"a\n\n":      "  a\n  \n",
		"\n\na\n\nb": "  \n  \n  a\n  \n  b\n",
		"\n\n\n":     "  \n  \n  \n",
		"  a \r\n b": "    a \r\n   b\n",
		"\xff\x00\n": "  \xff\x00\n",
		" ":          "   \n",
		"done\n#":    "  done\n  #\n",
	} {
		var d desk
		if err := d.show(text, nil); err != nil || string(d.told) != want || d.over {
			t.Errorf("%q: %q, %v, not %q", text, d.told, err, want)
		}
	}
}

// What is wrong is handed on, and nothing is told or changed.
func TestP22_1WhatIsWrongIsHandedOn(t *testing.T) {
	wrong := &api.Fault{Code: api.ErrScanByte, Place: api.Place{At: 3, Line: 2, Column: 1}}
	for _, call := range []func(d *desk) error{
		func(d *desk) error { return d.show("a", wrong) },
		func(d *desk) error { return d.answer(true, wrong) },
		func(d *desk) error { return d.become("a", wrong) },
	} {
		d := desk{text: "b"}
		if err := call(&d); !errors.Is(err, api.ErrScanByte) || len(d.told) > 0 || d.text != "b" || d.over {
			t.Errorf("%v, %q, %q", err, d.told, d.text)
		}
	}
}
