package samples

import "strings"

// Example is a source, and how it is formatted at a width.
type Example struct {
	Width        int
	Source, Want string
}

// Lines are lines, each with its end.
func Lines(l ...string) string { return strings.Join(l, "\n") + "\n" }

// Examples are those of the document's chapter on style, and then those of its whole.
func Examples() []Example {
	return []Example{
		{20, "program p;begin x:=1;y:=f(a,b)end.", Lines("program p;", "begin", "  x := 1;", "  y := f(a, b)", "end.")},
		{20, "program p;begin if a then skip else begin skip end end end.",
			Lines("program p;", "begin", "  if a then", "    skip", "  else", "    begin", "      skip", "    end", "  end", "end.")},
		{20, "program p; // q\nbegin {x} x:= // one\n\n\n1; {two} skip\n// three\nend.",
			Lines("program p; // q", "begin {x}", "  x := // one", "    1; {two}", "  skip", "  // three", "end.")},
		{20, "program p;var aaaaaa,bbbbbb,cccccc:t;begin a:=bbbbbbb+ccccccc*ddddddd end.",
			Lines("program p;", "var aaaaaa, bbbbbb,", "    cccccc: t;", "begin", "  a :=", "    bbbbbbb +", "    ccccccc *", "    ddddddd", "end.")},
		{72, "program p;begin x:=1;y:=f(a,b)end.", Lines("program p;", "begin", "  x := 1;", "  y := f(a, b)", "end.")},
		{12, "program p;begin x:=1;y:=f(a,b)end.", Lines("program p;", "begin", "  x := 1;", "  y :=", "    f(a, b)", "end.")},
		{72, "program p; // q\nbegin {x} x:= // one\n\n\n1; {two} skip\n// three\nend.\n",
			Lines("program p; // q", "begin {x}", "  x := // one", "    1; {two}", "  skip", "  // three", "end.")},
		{1, "program p;begin x:=a+b end.", Lines("program p;", "begin", "  x :=", "    a +", "    b", "end.")},
		{72, Lines("program p;", "", "", "var a:array[1..n]of record x,y:int;z:t end;", "proc f(a:t;b:u):v;begin return a end;", "", "begin", "", "skip;", "", "",
			"if not a or b=-1 then f() elif c then g[1,2].h else repeat skip until d end end."),
			Lines("program p;", "", "var a: array [1..n] of record", "  x, y: int;", "  z: t", "end;", "proc f(a: t; b: u): v;", "  begin", "    return a", "  end;",
				"begin", "  skip;", "", "  if not a or b = -1 then", "    f()", "  elif c then", "    g[1, 2].h", "  else", "    repeat", "      skip", "    until d", "  end", "end.")},
	}
}
