package stream_test

import (
	"strings"
	"testing"
)

// What ends what hangs on a Break, and what does not, with room for all of it.
func TestP9_2WhatEndsWhatHangs(t *testing.T) {
	// Of the whole: a Break, a Hard, an Empty, Close.
	const ahead = "a:a:0 B1::1 b::2 "
	says(t, 80, ahead+"B1:_b:1 .::0")
	says(t, 80, ahead+"B0:_b:1 c::2 .:c:0")
	says(t, 80, ahead+"H:_b|:0")
	says(t, 80, ahead+"E:_b:0 c:c:0")
	says(t, 80, ahead+".:_b:0")
	says(t, 80, ahead+"S::3 c::4 .:_b_c:0")
	// Those of blocks within it do not, nor do these blocks' Ends.
	says(t, 80, ahead+"[2::3 B1::4 c::5 B1::6 ]::7 [e2::8 ]::9 .:_b_c:0")
	says(t, 80, ahead+"[2::3 [e0::4 B1::5 ]::6 ]::7 B0:_b:1 c::2 B1:_c:1 .::0")
	says(t, 80, ahead+"[2::3 H:|b|:0 ]::0")
	says(t, 80, ahead+"[2::3 E:|b:0 ]::0")
	says(t, 80, ahead+"[2::3 c::4 {|}:|bc{|}:0 ]::0")
	// Of a block that does not fit: its Break, its Hard, its Empty, its End.
	const block = "[2::1 x::2 H:x|:0 a:__a:0 B1::1 b::2 "
	says(t, 80, block+"B1:_b:1 ]::0")
	says(t, 80, block+"H:_b|:0 ]::0")
	says(t, 80, block+"E:_b:0 ]::0")
	says(t, 80, block+"]:_b:0")
	says(t, 80, block+"[3::3 B1::4 c::5 ]::6 ]:_b_c:0")
	says(t, 80, block+"[3::3 B1::4 c::5 ]::6 B1:_b_c:1 ]::0")
	says(t, 80, block+"[3::3 B1::4 [e1::5 B1::6 H:|__b|:0 ]::0 B2::0 ]::0 ]::0")
	says(t, 80, block+"[3::3 c::4 E:|__bc:0 ]::0 B2::1 ]::0")
	says(t, 80, block+".:!70:2 S::3 .:!70:3 ]:_b:0 .::0")
	// What ends the whole's Break does not end an inner one's, and the other way round.
	says(t, 80, "a:a:0 B1::1 [2::2 x::3 B1::4 y::5 B1::6 z::7 ]::8 H:_x_y_z|:0")
	says(t, 80, "a:a:0 B1::1 [2::2 x::3 B1::4 y::5 ]::6 B1:_x_y:1 H:|:0")
}

// What hangs on a Break is exactly as wide as the room, and one column wider.
func TestP9_2WhatHangsAsWideAsTheRoom(t *testing.T) {
	says(t, 8, "aaa:aaa:0 B2::1 bbb::2 H:__bbb|:0")
	says(t, 7, "aaa:aaa:0 B2::1 bbb:|bbb:0 H:|:0")
	says(t, 8, "aaa:aaa:0 B2::1 bbb::2 B1:__bbb|:0")
	says(t, 9, "aaa:aaa:0 B2::1 bbb::2 B1:__bbb:1 .::0")
	says(t, 8, "aaa:aaa:0 B2::1 bbb::2 B0:__bbb:1 c:|c:0")
	says(t, 8, "aaa:aaa:0 B2::1 bbb::2 E:__bbb:0 c:c:0")
	says(t, 8, "aaa:aaa:0 B2::1 bbb::2 .:__bbb:0")
	says(t, 7, "aaa:aaa:0 B2::1 bb::2 S:|bb:0 .::0")
	says(t, 8, "aaa:aaa:0 B2::1 bb::2 S::3 .:__bb:0")
	says(t, 8, "aaa:aaa:0 B2::1 日::2 \u0301::3 \xff::4 \u0301::5 .:__日\u0301\xff\u0301:0")
	says(t, 7, "aaa:aaa:0 B2::1 日::2 \u0301::3 \xff:|日\u0301\xff:0 \u0301:\u0301:0 .::0")
	says(t, 4, "aaa:aaa:0 B2:|:0 b:b:0")
	says(t, 5, "aaa:aaa:0 B2::1 b:|b:0")
	says(t, 5, "aaa:aaa:0 B2::1 [e1::2 b:|:2 B1::3 c::4 ]:b_c:0")
	says(t, 8, "[1::1 x::2 H:x|:0 aa:_aa:0 B2::1 bbb::2 ]:__bbb:0")
	says(t, 7, "[1::1 x::2 H:x|:0 aa:_aa:0 B2::1 bbb:|_bbb:0 ]::0")
	says(t, 8, "aaa:aaa:0 B2::1 [2::2 b::3 B1::4 b::5 ]::6 H:__b_b|:0")
	says(t, 7, "aaa:aaa:0 B2::1 [2::2 b::3 B1::4 b:|:4 ]:b_b:0 H:|:0")
	// The room is that where the Break stands, not that where it was put.
	says(t, 5, "[e9::1 aa::2 B1::3 H:aa|:0 ]::0 b:_________b:0 B1:|:0 c:c:0")
	says(t, 6, "aaaa:aaaa:0 B1::1 bb:|bb:0 B1::1 ccc::2 H:_ccc|:0")
	says(t, 6, "aaaa:aaaa:0 B1::1 b::2 B1:_b|:0 ccccc:ccccc:0 B1::1 H:|:0")
}

// What is known of a piece that is held is how wide that is for which it looks for room; the room is known when it is
// printed, and may be less than where it was put.
func TestP9_2LessRoomThanThereWas(t *testing.T) {
	b := strings.Repeat("_", 8)
	says(t, 10, "[e8::1 a::2 B1::3 [0::4 b::5 B1::6 c::7 ]::8 dddddd:a|"+b+"b|"+b+"cdddddd:0 ]::0")
	says(t, 11, "[e8::1 a::2 B1::3 [0::4 b::5 B1::6 c::7 ]::8 ddddddd:a|"+b+"b_cddddddd:0 ]::0")
	says(t, 10, "[e8::1 a::2 B1::3 [e0::4 b::5 B0::6 c::7 B1::8 ]::9 dddddd:a|"+b+"b|"+b+"c|"+b+"dddddd:0 ]::0")
	says(t, 11, "[e8::1 a::2 B1::3 [e0::4 b::5 B0::6 c::7 B1::8 ]::9 ddddddd:a|"+b+"bc_ddddddd:0 ]::0")
	says(t, 10, "[8::1 aaaa::2 B1::3 [0::4 b::5 B1::6 c::7 ]::8 ddd:aaaa|"+b+"b|"+b+"cddd:0 ]::0")
	says(t, 11, "[8::1 aaaa::2 B1::3 [0::4 b::5 B1::6 c::7 ]::8 dddd:aaaa|"+b+"b_cdddd:0 ]::0")
}

// Where the room is below 0, a Begin and a Break are sure at once, as nothing at all fits; at 0 what has no width does.
func TestP9_2RoomBelow0(t *testing.T) {
	says(t, 2, "aa:aa:0 B0::1 [0::2 ]::3 \u0301::4 H:\u0301|:0")
	says(t, 1, "aa:aa:0 B0:|:0 [0::1 ]::0")
	says(t, 1, "aa:aa:0 [e0::0 B0:|:0 ]::0")
	says(t, 1, "aa:aa:0 [0::0 B0:|:0 ]::0")
	says(t, 2, "aa:aa:0 [e0::1 B0::2 ]::0 b:b:0")
	says(t, 1, "a:a:0 S::0 [e0::0 B0:|:0 b:b:0 ]::0")
	says(t, 2, "a:a:0 S::0 S::0 B0:|:0 b:b:0")
	says(t, 2, "[9::1 a::2 H:a|:0 [e1::0 b:_________b:0 B0:|:0 c:__________c:0 ]::0 B0:|:0 d:_________d:0 ]::0")
	says(t, 9, "[9::1 a::2 H:a|:0 [e1::1 ]::0 b:_________b:0 B0:|:0 ]::0")
}
