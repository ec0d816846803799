package samples

import (
	"strings"

	"colophon/api"
)

// Wrong is a source that is not taken, and the word of its error.
type Wrong struct{ Source, Want string }

// Wrongs are sources with every error that a source may have where it is formatted as a whole.
func Wrongs() []Wrong {
	const head = "program p;begin skip "
	long := strings.Repeat("a", api.MaxTok+1)
	return []Wrong{
		{"", "ErrParseEnd at 0 1:1"},
		{" \n{\u65e5}", "ErrParseEnd at 7 2:4"},
		{"x", "ErrParseTok at 0 1:1"},
		{"?", "ErrScanByte at 0 1:1"},
		{"; ?", "ErrParseTok at 0 1:1"},
		{"? ;", "ErrScanByte at 0 1:1"},
		{head, "ErrParseEnd at 21 1:22"},
		{head + "end", "ErrParseEnd at 24 1:25"},
		{head + "end.;", "ErrParseTok at 25 1:26"},
		{head + "end.\n \xff", "ErrScanByte at 27 2:2"},
		{"program p;\nbegin {", "ErrScanOpen at 17 2:7"},
		{"program p;begin a:=\"\u00e9\t\" end.", "ErrScanText at 22 1:22"},
		{"program " + long + ";", "ErrScanLong at 8 1:9"},
		{"program p;begin a:=" + strings.Repeat("(", 199) + "b", "ErrParseDeep at 218 1:219"},
		{head + "end." + strings.Repeat(" ", api.MaxText-24), "error 2 at 0 0:0"},
		{strings.Repeat("?", api.MaxText+1), "error 2 at 0 0:0"},
	}
}
