package style_test

import (
	"strings"
	"testing"

	"colophon/api"
	"colophon/samples"
	"colophon/style"
)

func TestP15_1New(t *testing.T) {
	s := style.New()
	if s == nil {
		t.Fatal("no new styler")
	}
	for _, e := range events("-Program a {c} //c") {
		if got := put(s, e); !got.same(answer{code: api.ErrTreeForm}) {
			t.Errorf("%s: %s", samples.EventWord(e), got)
		}
	}
	if got := closed(s); !got.same(answer{}) {
		t.Errorf("Close: %s", got)
	}
	if style.New() == style.New() {
		t.Error("a styler twice")
	}
}

// Which blocks begin with a node: each is the node's own, and ends with it.
func TestP15_2OpenBegins(t *testing.T) {
	for _, kind := range nodeKinds() {
		word, want := samples.NodeWord(kind), begun(kind)
		lays(t, "+Program p +"+word+" a", strings.TrimSpace(want+` "a"`))
		lays(t, "+"+word+" a", strings.TrimSpace(want+` "a"`))
		after := `"b"`
		if want != "" {
			after = `] "b"`
		}
		if kind == api.Program {
			after = `H "b"`
		}
		lays(t, "+Block +"+word+" a -"+word+" b", after)
		if want != "" {
			lays(t, "+Block +"+word+" -"+word+" b", want+` ] "b"`)
		}
	}
	lays(t, "+Expr +Rel +Sum +Term +Act +Param +Member a", `[0 [0 [0 [0 [2 [2 [2 "a"`)
}

// An Expr in a Return and in an Args, the first time and again; and in any other node.
func TestP15_2OpenExpr(t *testing.T) {
	lays(t, "+Return return +Expr a", `S [3 [0 "a"`)
	lays(t, "+Return return +Expr a -Expr +Expr b", `] S [3 [0 "b"`)
	lays(t, "+Return return +Expr a -Expr +Expr b -Expr -Return +Skip c", `] ] ] "c"`)
	lays(t, "+Return +Expr -Expr +Expr -Expr -Return +Body a", `S [3 [0 ] S [3 [0 ] ] ] "a"`)
	lays(t, "+Args ( +Expr a", `[2 B0 [0 "a"`)
	lays(t, "+Args ( +Expr a -Expr +Expr b", `] [0 "b"`)
	lays(t, "+Args ( +Expr a -Expr , +Expr b", `B1 [0 "b"`)
	lays(t, "+Args +Expr -Expr +Expr a", `B0 [0 ] [0 "a"`)
	lays(t, "+Args ( a +Expr b", `B0 [0 "b"`)
	lays(t, "+Args ( {c} +Expr a", `B0 [0 S "a"`)
	lays(t, "+Args ( )", `[2 ] ")"`)
	// Each Args has its own first one.
	lays(t, "+Args ( +Expr a +Args ( +Expr b", `[2 B0 [0 "b"`)
	lays(t, "+Args ( +Expr a +Args ( +Expr b -Expr ) -Args -Expr +Expr d", `] [0 "d"`)
	lays(t, "+Object +Args ( +Expr a -Expr -Args +Args ( +Expr b", `[2 B0 [0 "b"`)
	lays(t, "+Args ( +Group +Expr a -Expr -Group +Expr b", `] B0 [0 "b"`)
	for _, kind := range nodeKinds() {
		word := samples.NodeWord(kind)
		for _, inner := range []api.NodeKind{api.Rel, api.Sum, api.Term, api.Object, api.Skip, api.Args, api.Return} {
			lays(t, "+"+word+" a +"+samples.NodeWord(inner)+" b", strings.TrimSpace(begun(inner)+` "b"`))
		}
		if kind != api.Return && kind != api.Args {
			lays(t, "+"+word+" a +Expr b", `[0 "b"`)
			lays(t, "+"+word+" a +Expr b -Expr +Expr c", `] [0 "c"`)
		}
	}
}

// Nodes with no block, one and several, and what their end leaves.
func TestP15_2Close(t *testing.T) {
	lays(t, "+Block a +Skip b -Skip c", `"c"`)
	lays(t, "+Block a +Group b ( -Group c", `[1 ] "c"`)
	lays(t, "+Block a +Group ( ( ( b -Group c", `] ] ] "c"`)
	lays(t, "+Block a +Group ( ( ( b ) -Group c", `] ] "c"`)
	lays(t, "+Block a +Group ( b ) ) ) -Group c", `"c"`)
	lays(t, "+Block a +Act x := +Expr 1 -Expr -Act c", `] ] "c"`)
	lays(t, "+Block a +Member x var : : : -Member c", `S "c"`)
	// A block that was laid with a comment counts as one that waits, and one node's blocks are no other's.
	lays(t, "+Body +Block begin {c} -Block +Skip a", `H ] "a"`)
	lays(t, "+Body +Group ( {c} +Group ( -Group a", `[1 ] "a"`)
	lays(t, "+Body +Group ( {c} +Group ( -Group -Group a", `[1 ] ] "a"`)
}

// What a Program's end lets wait: behind its blocks' ends.
func TestP15_2CloseOfAProgram(t *testing.T) {
	lays(t, "+Program a +Program b -Program c", `H "c"`)
	lays(t, "+Program a +Program program -Program c", `S H "c"`)
	for words, want := range map[string]string{
		"+Program -Program":                    "H",
		"+Program a -Program":                  "H",
		"+Program program -Program":            "S H",
		"+Program a +Group ( -Group -Program":  "[1 ] H",
		"+Program ; -Program":                  "H H",
		"+Program a -Program +Program":         "ErrTreeForm",
		"+Program -Program +Program -Program":  "H H",
		"+Block a -Block":                      "",
		"+Block begin -Block":                  "[e2 H ]",
		"+Block begin begin a -Block":          "] ]",
		"+Program a -Program +Block //c":       "ErrTreeForm",
		"+Program -Program +Block //c -Block":  "H",
		"+Block //c -Block":                    "H",
		"+Block //c a -Block":                  "",
		"+Block {c} -Block":                    "H",
		"+Block a {c} -Block":                  "",
		"+Block a //c -Block":                  "H",
		"+Block a {c}^1 -Block":                "H",
		"+Block begin //c -Block":              "H ]",
		"+Group ( //c -Group":                  "H ]",
		"+Program a //c -Program":              "H",
		"+Act := //c -Act":                     "H B1 ]",
		"+Skip -Skip":                          "",
		"+Group ( //c -Group +Skip a -Skip":    "",
		"+Group a //c -Group +Group ( -Group":  "[1 ]",
		"":                                     "",
		"+Expr -Expr +Expr -Expr":              "[0 ] [0 ]",
		"+Repeat until //c -Repeat":            "H S [3 ]",
		"+Repeat repeat a until //c^1 -Repeat": "H S [3 ]",
	} {
		if got := closed(behind(t, events(words))).String(); got != strings.TrimSpace(want) {
			t.Errorf("%s: Close lays %s, not %s", words, got, want)
		}
	}
}
