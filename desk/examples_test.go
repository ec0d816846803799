package desk_test

// example is a script of the document, and what it tells.
type example struct{ about, script, told string }

// examples are those of the whole.
func examples() []example {
	return []example{
		{"A program, formatted; at a narrower width.", `source
program p;begin x:=1;y:=f(a,b)end.
done
format
check
take
check
width 12
format
`, `> source
ok
> format
  program p;
  begin
    x := 1;
    y := f(a, b)
  end.
> check
no
> take
ok
> check
yes
> width 12
ok
> format
  program p;
  begin
    x := 1;
    y :=
      f(a, b)
  end.
`},
		{"Comments stay where they stood; empty lines within a statement do not.", `source
program p; // q
begin {x} x:= // one


1; {two} skip
// three
end.
done
format
notes
strip
format
`, `> source
ok
> format
  program p; // q
  begin {x}
    x := // one
      1; {two}
    skip
    // three
  end.
> notes
  3 behind 4
  4 behind 3
  6 behind 6
  8 behind 5
  9 alone 8
notes 5
> strip
ok
> format
  program p;
  begin
    x := 1;
    skip
  end.
`},
		{"Characters of every width; where an error is.", `source
a:="日本" // é
done
tokens
format
report
source
program p;
begin 日 := "é" ? end.
done
report
drive 9999999
`, `> source
ok
> tokens
  1 1 1 0 1
  6 1 2 0 2
  4 1 4 0 8
  7 1 9 0 5
tokens 4
> format
error 120 at 1:1
> report
  source: 1:1: error 120
    a:="日本" // é
    ^
> source
ok
> report
  source: 2:16: error 100
    begin 日 := "é" ? end.
                    ^
> drive 9999999
17
error 100 at 2:16
`},
		{"Chunk by chunk: how much each call tells.", `source
program p;begin skip end.
done
drive 7
drive 9999999
take
drive 9999999
`, `> source
ok
> drive 7
0 10 13 5 1
no
> drive 9999999
28 1
no
> take
ok
> drive 9999999
28 1
yes
`},
		{"The end, ahead of its time; and more.", `source
program p;begin skip end
done
format
drive 9999999
add
.
done
format
cut 2
check
source
done
drive 5
format
`, `> source
ok
> format
error 121 at 2:1
> drive 9999999
27 0
error 121 at 2:1
> add
ok
> format
  program p;
  begin
    skip
  end.
> cut 2
ok
> check
error 121 at 2:1
> source
ok
> drive 5
0
error 121 at 1:1
> format
error 121 at 1:1
`},
		{"A layout.", `source
program p;begin skip end.
done
layout
`, `> source
ok
> layout
  text program
  blank
  text p
  text ;
  hard
  text begin
  begin 2 even
  hard
  text skip
  end
  hard
  text end
  text .
  hard
`},
		{"The narrowest width.", `width 1
source
program p;begin x:=a+b end.
done
format
`, `> width 1
ok
> source
ok
> format
  program p;
  begin
    x :=
      a +
      b
  end.
`},
		{"Declarations, blocks, empty lines between them.", `source
program p;


var a:array[1..n]of record x,y:int;z:t end;
proc f(a:t;b:u):v;begin return a end;

begin

skip;


if not a or b=-1 then f() elif c then g[1,2].h else repeat skip until d end end.
done
format
`, `> source
ok
> format
  program p;
  
  var a: array [1..n] of record
    x, y: int;
    z: t
  end;
  proc f(a: t; b: u): v;
    begin
      return a
    end;
  begin
    skip;
  
    if not a or b = -1 then
      f()
    elif c then
      g[1, 2].h
    else
      repeat
        skip
      until d
    end
  end.
`},
		{"Two that say the same, and one that does not.", `same
source
program p;begin skip{x}end.
done
keep
take
same
batch 2
source
program p;begin skip
{x}end.
done
same
source
?
done
same
batch 1
`, `> same
none
> source
ok
> keep
kept 28
> take
ok
> same
yes
> batch 2
  a same
  b other
> source
ok
> same
no
> source
ok
> same
error 100 at 1:1
> batch 1
  a wrong
  b other
`},
		{"What is no token.", `source
"a
done
tokens
source
begin ''
done
tokens
format
source
{
done
report
`, `> source
ok
> tokens
error 101 at 1:1
> source
ok
> tokens
error 102 at 1:8
> format
error 120 at 1:1
> source
ok
> report
  source: 1:1: error 101
    {
    ^
`},
	}
}
