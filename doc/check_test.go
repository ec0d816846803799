package doc_test

import (
	"math"
	"slices"
	"strings"
	"testing"

	"colophon/api"
	"colophon/doc"
	"colophon/samples"
)

// pieces have letters: small ones and brackets the right ones, great ones those that are wrong.
var pieces = map[rune]api.Doc{
	't': {Kind: api.Text, Text: "a"},
	'b': {Kind: api.Blank},
	'k': {Kind: api.Break, Blanks: 3},
	'h': {Kind: api.Hard},
	'e': {Kind: api.Empty},
	'(': {Kind: api.Begin, Indent: 4},
	'[': {Kind: api.Begin, Even: true},
	')': {Kind: api.End},
	'T': {Kind: api.Text, Text: " a"},
	'B': {Kind: api.Blank, Blanks: 1},
	'K': {Kind: api.Break, Blanks: 1001},
	'I': {Kind: api.Begin, Indent: -1},
	'N': {Kind: api.End, Even: true},
	'Z': {},
}

func of(letters string) []api.Doc {
	var l []api.Doc
	for _, c := range letters {
		l = append(l, pieces[c])
	}
	return l
}

func TestP7_1TheChaptersExamples(t *testing.T) {
	for _, c := range []struct {
		name string
		d    api.Doc
		at   int
	}{
		{"End", api.Doc{Kind: api.End}, 0},
		{"Begin", api.Doc{Kind: api.Begin}, 1},
		{"a Text of no bytes", api.Doc{Kind: api.Text}, 0},
		{"Text `a `", api.Doc{Kind: api.Text, Text: "a "}, 0},
		{"Blank with Blanks 1", api.Doc{Kind: api.Blank, Blanks: 1}, 0},
		{"Kind 9", api.Doc{Kind: 9}, 0},
	} {
		if e, at := doc.Check([]api.Doc{c.d}); e != api.ErrDocForm || at != c.at {
			t.Errorf("Check of %s = %d, %d, not %d, %d", c.name, e, at, api.ErrDocForm, c.at)
		}
	}
}

func TestP7_1NoPieces(t *testing.T) {
	for _, l := range [][]api.Doc{nil, {}} {
		if e, at := doc.Check(l); e != api.OK || at != 0 {
			t.Errorf("Check of no pieces = %d, %d", e, at)
		}
	}
}

// checkOne holds Check of a piece behind two others; a Begin is ended.
func checkOne(t *testing.T, d api.Doc, good bool) {
	t.Helper()
	l := append(of("(t"), d)
	if d.Kind == api.Begin {
		l = append(l, of(")")...)
	}
	if d.Kind != api.End {
		l = append(l, of(")")...)
	}
	e, at := doc.Check(l)
	if good && (e != api.OK || at != 0) {
		t.Errorf("Check of %s= %d, %d: it may be", shortLayout(l), e, at)
	}
	if !good && (e != api.ErrDocForm || at != 2) {
		t.Errorf("Check of %s= %d, %d: its piece 2 is not right", shortLayout(l), e, at)
	}
}

func TestP7_1Texts(t *testing.T) {
	for _, c := range []struct {
		text string
		good bool
	}{
		{"", false},
		{"a", true},
		{"\\", true},
		{"\x00", true},
		{"\xff", true},
		{"\t", true},
		{"\r", true},
		{"\v", true},
		{"\t\r", true},
		{"\u00a0", true},
		{"\u2028", true},
		{" ", false},
		{"\n", false},
		{" a", false},
		{"\na", false},
		{"a ", false},
		{"a\n", false},
		{" a ", false},
		{"\na\n", false},
		{"a b", true},
		{"a\nb", true},
		{"a \n b", true},
		{"\t \t", true},
		{"日本", true},
		{strings.Repeat("a", 65534), true},
		{strings.Repeat("a", 65535), true},
		{strings.Repeat("a", 65536), false},
		{strings.Repeat("a", 1<<20), false},
		{"a" + strings.Repeat(" ", 65533) + "b", true},
		{"a" + strings.Repeat("\n", 65533) + "b", true},
		{"a" + strings.Repeat("\n", 65534) + "b", false},
		{strings.Repeat("a", 65534) + " ", false},
		{strings.Repeat("a", 65534) + "\n", false},
		{" " + strings.Repeat("a", 65534), false},
		{strings.Repeat("é", 32767), true},
		{strings.Repeat("é", 32768), false},
	} {
		checkOne(t, api.Doc{Kind: api.Text, Text: c.text}, c.good)
	}
}

// A byte alone, first, last and within: 20 and 0A alone may stand within alone.
func TestP7_1EveryByteOfAText(t *testing.T) {
	for c := range 256 {
		b, good := string([]byte{byte(c)}), c != 0x20 && c != 0x0a
		checkOne(t, api.Doc{Kind: api.Text, Text: b}, good)
		checkOne(t, api.Doc{Kind: api.Text, Text: b + "a"}, good)
		checkOne(t, api.Doc{Kind: api.Text, Text: "a" + b}, good)
		checkOne(t, api.Doc{Kind: api.Text, Text: "a" + b + "a"}, true)
	}
}

func TestP7_1Numbers(t *testing.T) {
	for _, c := range []struct {
		n    int
		good bool
	}{
		{math.MinInt, false}, {-1001, false}, {-1000, false}, {-1, false},
		{0, true}, {1, true}, {2, true}, {999, true}, {1000, true},
		{1001, false}, {1 << 32, false}, {1<<32 + 1, false}, {math.MaxInt, false},
	} {
		checkOne(t, api.Doc{Kind: api.Break, Blanks: c.n}, c.good)
		checkOne(t, api.Doc{Kind: api.Begin, Indent: c.n}, c.good)
		checkOne(t, api.Doc{Kind: api.Begin, Indent: c.n, Even: true}, c.good)
	}
}

// Each kind, those that are none too, with each field zero and not: only the kind's own may be other than zero.
func TestP7_1FieldsThatAKindDoesNotUse(t *testing.T) {
	uses := map[api.DocKind]string{api.Text: "t", api.Blank: "", api.Break: "b", api.Hard: "", api.Empty: "", api.Begin: "ie", api.End: ""}
	met := 0
	for kind := range 256 {
		for mask := range 16 {
			d, used := api.Doc{Kind: api.DocKind(kind)}, ""
			if mask&1 != 0 {
				d.Text, used = "a", used+"t"
			}
			if mask&2 != 0 {
				d.Blanks, used = 1, used+"b"
			}
			if mask&4 != 0 {
				d.Indent, used = 1, used+"i"
			}
			if mask&8 != 0 {
				d.Even, used = true, used+"e"
			}
			own, good := uses[d.Kind]
			good = good && strings.Trim(used, own) == "" && (d.Kind != api.Text || used == "t")
			if good {
				met++
			}
			checkOne(t, d, good)
		}
	}
	if met != 1+1+2+1+1+4+1 {
		t.Errorf("%d pieces were right", met)
	}
}

func TestP7_1NumbersOfOtherKinds(t *testing.T) {
	for kind := api.Text; kind <= api.End; kind++ {
		for _, n := range []int{math.MinInt, -1, 1, 1000, 1001, math.MaxInt} {
			d := api.Doc{Kind: kind}
			if kind == api.Text {
				d.Text = "a"
			}
			if kind != api.Break {
				d.Blanks = n
				checkOne(t, d, false)
				d.Blanks = 0
			}
			if kind != api.Begin {
				d.Indent = n
				checkOne(t, d, false)
			}
		}
	}
}

func TestP7_1WhichOfSeveralFaults(t *testing.T) {
	for _, c := range []struct {
		letters string
		at      int
	}{
		{")", 0},
		{"t)", 1},
		{"()", -1},
		{"())", 2},
		{"())(", 2},
		{")(", 0},
		{"(", 1},
		{"(t", 2},
		{"((", 2},
		{"(()", 3},
		{"([bk))", -1},
		{"([bk)))", 6},
		{"()[)", -1},
		{"()[", 3},
		{"T)", 0},
		{")T", 0},
		{"(T", 1},
		{"(T)", 1},
		{"(t)T", 3},
		{"(t)N", 3},
		{"(N", 1},
		{"N", 0},
		{"I", 0},
		{"I)", 0},
		{"(I))", 1},
		{"tZ", 1},
		{"TB", 0},
		{"tbkheB", 5},
		{"tbkhe", -1},
		{"(K", 1},
		{"(t)(", 4},
	} {
		want, wantAt := api.ErrDocForm, c.at
		if c.at < 0 {
			want, wantAt = api.OK, 0
		}
		if e, at := doc.Check(of(c.letters)); e != want || at != wantAt {
			t.Errorf("Check of %q = %d, %d, not %d, %d", c.letters, e, at, want, wantAt)
		}
	}
}

func TestP7_1DeepLayouts(t *testing.T) {
	for _, deep := range []int{1000, 65536, 1 << 20} {
		l := append(slices.Repeat(of("("), deep), slices.Repeat(of(")"), deep)...)
		if e, at := doc.Check(l); e != api.OK || at != 0 {
			t.Errorf("Check of %d blocks in one another = %d, %d", deep, e, at)
		}
		if e, at := doc.Check(l[1:]); e != api.ErrDocForm || at != len(l)-2 {
			t.Errorf("Check of an End too many behind %d blocks = %d, %d", deep, e, at)
		}
		if e, at := doc.Check(l[:len(l)-1]); e != api.ErrDocForm || at != len(l)-1 {
			t.Errorf("Check of an End too few behind %d blocks = %d, %d", deep, e, at)
		}
	}
}

func TestP7_1MaxDocs(t *testing.T) {
	l := slices.Repeat(of("b"), 2097153)
	check := func(what string, l []api.Doc, want api.Errno, wantAt int) {
		t.Helper()
		if e, at := doc.Check(l); e != want || at != wantAt {
			t.Errorf("Check of %s = %d, %d, not %d, %d", what, e, at, want, wantAt)
		}
	}
	check("2097152 pieces", l[:2097152], api.OK, 0)
	check("2097153 pieces", l, api.ErrLong, 0)
	l[0] = of(")")[0]
	check("2097152 pieces, the first an End", l[:2097152], api.ErrDocForm, 0)
	check("2097153 pieces, the first an End", l, api.ErrLong, 0)
	l[0] = of("(")[0]
	check("2097152 pieces, the first a Begin", l[:2097152], api.ErrDocForm, 2097152)
	check("2097153 pieces, the first a Begin", l, api.ErrLong, 0)
	l[0], l[2097151] = of("b")[0], of("T")[0]
	check("2097152 pieces, the last wrong", l[:2097152], api.ErrDocForm, 2097151)
	check("2097153 pieces, the last but one wrong", l, api.ErrLong, 0)
}

// All layouts of a few pieces, right and wrong, against the plain way.
func TestP7_1AllShortLayouts(t *testing.T) {
	for _, c := range []struct {
		letters string
		most    int
	}{
		{"tbkhe([)TBKINZ", 4},
		{"t()T", 7},
		{"([)", 9},
	} {
		good, bad := 0, 0
		for letters := range samples.Texts(strings.Split(c.letters, ""), c.most) {
			if holdLayout(t, of(letters)) {
				good++
			} else {
				bad++
			}
		}
		if good < 100 || bad < 100 {
			t.Errorf("of %q: %d layouts may be, %d may not", c.letters, good, bad)
		}
	}
}
