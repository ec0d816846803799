package stream_test

import (
	"strings"
	"testing"
)

func TestP9_2TheChaptersExamples(t *testing.T) {
	p := says(t, 10, "[2::1 aaa::2 B1::3 bbb::4 B1::5")
	goesOn(t, p, "ccc:aaa_bbb|__ccc:0")
	goesOn(t, p, ".:!70:0 ]::0 .::0 a:!4:0")
	says(t, 10, "aaaa:aaaa:0 B1::1 b::2 H:_b|:0 c:c:0")
	for _, ahead := range []string{"", "aaaa:aaaa:0 B1::1 b::2"} {
		p := says(t, 10, ahead)
		held := p.Held()
		refused(t, p, of("]")[0])
		refused(t, p, wrongText(""))
		if p.Held() != held {
			t.Errorf("behind %q: Held() = %d", ahead, p.Held())
		}
	}
}

func TestP9_3NoPieces(t *testing.T) {
	for _, columns := range []int{1, 80, 4096} {
		says(t, columns, ".::0 .:!4:0 a:!4:0")
		if p := made(t, columns); p.Held() != 0 {
			t.Errorf("New(%d) holds %d", columns, p.Held())
		}
	}
}

func TestP9_2EachKindFirst(t *testing.T) {
	for _, columns := range []int{3, 10, 4096} {
		says(t, columns, "a:a:0 .::0")
		says(t, columns, "{|}:{|}:0 .::0")
		says(t, columns, "S::0 .::0")
		says(t, columns, "S::0 S::0 a:a:0 .::0")
		says(t, columns, "B0::0 .::0")
		says(t, columns, "B1000::0 a:a:0 .::0")
		says(t, columns, "H::0 .::0")
		says(t, columns, "H::0 H::0 a:a:0 .::0")
		says(t, columns, "E::0 .::0")
		says(t, columns, "E::0 H::0 E::0 B1::0 E::0 a:a:0 .::0")
		says(t, columns, "[2::1 .:!70:1 ]::0 .::0")
		says(t, columns, "[2::1 a::2 ]:a:0 .::0")
		says(t, columns, "[e2::1 S::2 a::3 ]:a:0 .::0")
		says(t, columns, "[e2::1 B1::2 a::3 ]:a:0 .::0")
		says(t, columns, "[2::1 B1::2 a::3 ]:a:0 .::0")
		says(t, columns, "[2::1 H::0 a:a:0 ]::0 .::0")
		says(t, columns, "[2::1 E::0 a:a:0 ]::0 .::0")
		says(t, columns, "[2::1 [e3::2 {|}:{|}:0 ]::0 ]::0 .::0")
	}
}

func TestP9_2EachKindLast(t *testing.T) {
	for _, columns := range []int{3, 10, 4096} {
		says(t, columns, "a:a:0 a:a:0 .::0")
		says(t, columns, "a:a:0 S::0 .::0")
		says(t, columns, "a:a:0 B0::1 .::0")
		says(t, columns, "a:a:0 H:|:0 .::0")
		says(t, columns, "a:a:0 E::0 .::0")
		says(t, columns, "a:a:0 H:|:0 E:|:0 .::0")
		says(t, columns, "a:a:0 H:|:0 E:|:0 E::0 .::0")
		says(t, columns, "a:a:0 [2::1 ]::0 .::0")
		says(t, columns, "a:a:0 [2::1 H:|:0 ]::0 .::0")
		says(t, columns, "a:a:0 {|}:{|}:0 .::0")
		says(t, columns, "a:a:0 [2::1 .:!70:1 ]::0 .::0")
	}
	says(t, 1, "a:a:0 B1:|:0 .::0")
	says(t, 2, "a:a:0 B1::1 .::0")
	says(t, 2, "a:a:0 B1::1 E::0 .::0")
	says(t, 1, "a:a:0 B1:|:0 E:|:0 .::0")
}

func TestP9_2WhereALineBegins(t *testing.T) {
	for _, columns := range []int{3, 10, 4096} {
		const line = "a:a:0 H:|:0 "
		says(t, columns, line+"b:b:0")
		says(t, columns, line+"S::0 S::0 b:b:0")
		says(t, columns, line+"B0::0 b:b:0")
		says(t, columns, line+"B1000::0 B3::0 b:b:0 .::0")
		says(t, columns, line+"H::0 H::0 b:b:0")
		says(t, columns, line+"E:|:0 E::0 b:b:0")
		says(t, columns, line+"E:|:0 S::0 E::0 B1::0 H::0 E::0 b:b:0")
		says(t, columns, line+"[2::1 ]::0 E:|:0 b:b:0")
		says(t, columns, line+"[2::1 b::2 ]:b:0")
		says(t, columns, line+"[2::1 B1::2 b::3 ]:b:0")
		says(t, columns, line+"[e2::1 B1::2 b::3 ]:b:0")
		says(t, columns, line+"[2::1 E:|:0 B9::0 b:b:0 H:|:0 c:__c:0 ]::0 H:|:0 d:d:0")
		says(t, columns, "[2::1 a::2 H:a|:0 S::0 B1::0 b:__b:0 ]::0 .::0")
		says(t, columns, "[2::1 a::2 H:a|:0 E:|:0 ]::0 E::0 B1::0 b:__b:0 .::0")
	}
}

// Blanks that are held back are not told, though the piece was printed; a line's end is told at once, its indent is not.
func TestP9_2BlanksThatAreHeldBack(t *testing.T) {
	says(t, 80, "a:a:0 S::0 b:_b:0")
	says(t, 80, "a:a:0 S::0 S::0 b:__b:0")
	says(t, 80, "a:a:0 S::0 H:|:0 b:b:0")
	says(t, 80, "a:a:0 S::0 E::0 b:_b:0")
	says(t, 80, "a:a:0 S::0 .::0")
	says(t, 80, "a:a:0 B3::1 B2::1 H:|:0")
	says(t, 80, "a:a:0 B3::1 B2::1 b::2 .:_____b:0")
	says(t, 80, "a:a:0 B3::1 B2::1 E::0 b:_____b:0")
	says(t, 80, "[e3::1 a::2 H:a|:0 b:___b:0 ]::0")
	says(t, 80, "[e3::1 a::2 H:a|:0 E:|:0 b:___b:0 ]::0")
	says(t, 80, "[e3::1 a::2 H:a|:0 ]::0 H::0 .::0")
	says(t, 5, "aaaa:aaaa:0 [3::1 B1::2 b:|___b:0 ]::0")
	says(t, 5, "aaaa:aaaa:0 [3::1 B2:|:0 ]::0 b:___b:0")
	says(t, 80, "[2::1 a::2 S::3 ]:a:0 b:_b:0")
	says(t, 80, "[2::1 a::2 B1::3 ]:a:0 b:_b:0")
}

func TestP9_2BreaksOfEachBlock(t *testing.T) {
	// Of the whole.
	says(t, 5, "a:a:0 B1::1 b::2 B1:_b:1 cc:|cc:0 B1::1 .::0")
	// Of a block that fits.
	says(t, 5, "[2::1 a::2 B1::3 b::4 B1::5 c::6 ]:a_b_c:0")
	// Of an even block that fits.
	says(t, 5, "[e2::1 a::2 B1::3 b::4 B1::5 c::6 ]:a_b_c:0")
	// Of a block that does not: what hangs on each is asked for.
	says(t, 5, "[2::1 a::2 B1::3 b::4 B1::5 cc:a_b|__cc:0 B1::1 d:|__d:0 ]::0")
	says(t, 6, "[2::1 a::2 B1::3 b::4 B1::5 ccc:a_b|__ccc:0 B0::1 d::2 B1:d|:0 e:__e:0 ]::0")
	// Of an even block that does not: each is sure at once.
	says(t, 5, "[e2::1 a::2 B1::3 b::4 B1::5 cc:a|__b|__cc:0 B1:|:0 d:__d:0 B0:|:0 ]::0")
	says(t, 80, "[e2::1 a::2 H:a|:0 b:__b:0 B1:|:0 c:__c:0 B1:|:0 ]::0")
	// Of a block within one that does not fit: it may fit.
	says(t, 5, "[2::1 aaa::2 [e2::3 H:aaa|:0 b:____b:0 B1:|:0 ]::0 [e0::1 B9::0 c:____c:0 B0:|:0 d:__d:0 ]::0 ]::0")
	says(t, 5, "[e2::1 aaa::2 B1::3 bbb:aaa|__bbb:0 [e1::1 B1:|:0 ]::0 c:___c:0 ]::0")
	says(t, 7, "[e2::1 aaa::2 B1::3 bbbb:aaa|__bbbb:0 [e1::1 B1::2 ]::0 c:_c:0 ]::0")
}

// A block's End comes while all of it fits, exactly as wide as the room, and one column wider.
func TestP9_2BlocksAsWideAsTheRoom(t *testing.T) {
	says(t, 6, "[e2::1 aa::2 B1::3 bb::4 ]:aa_bb:0")
	says(t, 5, "[e2::1 aa::2 B1::3 bb::4 ]:aa_bb:0")
	says(t, 4, "[e2::1 aa::2 B1::3 bb:aa|__bb:0 ]::0")
	says(t, 5, "[2::1 aa::2 B1::3 bb::4 ]:aa_bb:0")
	says(t, 4, "[2::1 aa::2 B1::3 bb:aa|__bb:0 ]::0")
	says(t, 8, "xx:xx:0 S::0 [e2::1 aa::2 B1::3 bb::4 ]:_aa_bb:0")
	says(t, 7, "xx:xx:0 S::0 [e2::1 aa::2 B1::3 bb:_aa|__bb:0 ]::0")
	says(t, 5, "[e2::1 aa::2 B1::3 bb::4 ]:aa_bb:0 ccccc:ccccc:0")
	says(t, 8, "[3::1 x::2 H:x|:0 [e2::1 aa::2 B1::3 bb::4 ]:___aa_bb:0 ]::0")
	says(t, 7, "[3::1 x::2 H:x|:0 [e2::1 aa::2 B1::3 bb:___aa|_____bb:0 ]::0 ]::0")
	says(t, 4, "[e2::1 日::2 B1::3 \xff::4 \u0301::5 ]:日_\xff\u0301:0")
	says(t, 3, "[e2::1 日::2 B1::3 \xff:日|__\xff:0 \u0301:\u0301:0 ]::0")
	says(t, 6, "[e2::1 a::2 B1::3 [e2::4 b::5 B1::6 c::7 ]::8 S::9 ]:a_b_c:0 d:_d:0")
	says(t, 5, "[e2::1 a::2 B1::3 [e2::4 b::5 B1::6 c::7 ]::8 S:a|__b_c:0 d:_d:0 ]::0")
}

// A block becomes wider than the room ahead of its End, by each kind of piece that has a width.
func TestP9_2BlocksThatBecomeTooWide(t *testing.T) {
	const ahead = "[e2::1 a::2 B1::3 bb::4 " // as wide as the room
	says(t, 4, ahead+"c:a|__bbc:0 ]::0")
	says(t, 4, ahead+"\u0301::5 ]:a_bb\u0301:0")
	says(t, 4, ahead+"S:a|__bb:0 c:_c:0 ]::0")
	says(t, 4, ahead+"B0::5 c:a|__bb|__c:0 ]::0")
	says(t, 4, ahead+"B1:a|__bb|:0 ]::0")
	says(t, 4, ahead+"H:a|__bb|:0 ]::0")
	says(t, 4, ahead+"E:a|__bb:0 ]::0")
	says(t, 4, ahead+"[2::5 ]::6 ]:a_bb:0")
	says(t, 4, ahead+"[2::5 S:a|__bb:0 ]::0 ]::0")
	for _, columns := range []int{4, 9, 4096} {
		says(t, columns, ahead+"H:a|__bb|:0 ]::0")
		says(t, columns, ahead+"E:a|__bb:0 ]::0")
		says(t, columns, ahead+"{|}:a|__bb{|}:0 ]::0")
		says(t, columns, ahead+"[1::5 H:a|__bb|:0 ]::0 ]::0")
		says(t, columns, ahead+"[1::5 [2::6 E:a|__bb:0 ]::0 ]::0 ]::0")
		says(t, columns, ahead+"[1::5 {|}:a|__bb{|}:0 ]::0 ]::0")
	}
	says(t, 4, "[2::1 a::2 B1::3 bb::4 c:a|__bbc:0 ]::0")
	says(t, 4, "[2::1 a::2 B1::3 bb::4 S:a|__bb:0 ]::0")
	says(t, 4, "[2::1 a::2 B1::3 bb::4 B1:a_bb|:0 ]::0")
	says(t, 4, "[2::1 a::2 B1::3 bb::4 H:a_bb|:0 ]::0")
	says(t, 4, "[2::1 a::2 B1::3 bb::4 E:a_bb:0 ]::0")
	says(t, 4, "[2::1 a::2 B1::3 bb::4 {|}:a|__bb{|}:0 ]::0")
	// At the greatest width one column too many is seen too.
	a := strings.Repeat("a", 4095)
	says(t, 4096, "[e2::1 "+a+"::2 B1::3 ]:"+a+":0")
	says(t, 4096, "[e2::1 a"+a+"::2 B1:a"+a+"|:0 ]::0")
	says(t, 4096, "[e2::1 aa"+a+":aa"+a+":0 B1:|:0 ]::0")
}
