package fascine_test

import (
	"bytes"
	"slices"
	"strings"
	"testing"

	"fascine/api"
	"fascine/fascine"
)

// alphabet: the letters in the order of their numbers, the Greek ones by their code points, since others look the same.
const alphabet = "ABCDEFGHIJKLMNOPQRSTUVWXYZabcdefghijklmnopqrstuvwxyz" +
	"\u03b1\u03b2\u03b3\u03b4\u03b5\u03b6\u03b7\u03b8\u03b9\u03ba\u03bb\u03bc"

// exampleText is the text of examplePacket.
const exampleText = "RgAFAAICAQEAAGFi"

const examplePacket = "F\x00\x05\x00\x02\x02\x01\x01\x00\x00ab"

// spelt reckons otherwise than the program: all bits are laid out one by one, then taken by sixes.
func spelt(data []byte) string {
	var bits []int
	for _, b := range data {
		for place := 128; place > 0; place /= 2 {
			bits = append(bits, int(b)/place%2)
		}
	}
	for len(bits)%6 != 0 {
		bits = append(bits, 0)
	}
	text := ""
	for ; len(bits) > 0; bits = bits[6:] {
		n := 0
		for _, bit := range bits[:6] {
			n = 2*n + bit
		}
		text += string([]rune(alphabet)[n])
	}
	return text
}

// isPacket looks for faults in the document's order, with the tests' own way of cutting.
func isPacket(data []byte) bool {
	if len(data) < 10 || data[0] != 70 {
		return false
	}
	length := int(data[3])*256 + int(data[4])
	p := api.Plan{Size: int(data[5]), Most: int(data[6]), Spare: int(data[7])}
	if length > 2000 || p.Size < 1 || p.Size > 16 || p.Most < 1 || p.Most > 20 || p.Spare > 20 {
		return false
	}
	blocks := dealt(length, p)
	block, piece := int(data[8]), int(data[9])
	return len(blocks) <= 256 && block < len(blocks) && piece < blocks[block]+p.Spare && len(data) == 10+p.Size
}

// packetOf numbers that stand ahead of the piece, with a piece of that many bytes.
func packetOf(length int, p api.Plan, block, piece, size int) []byte {
	data := []byte{70, 1, 2, byte(length >> 8), byte(length), byte(p.Size), byte(p.Most), byte(p.Spare), byte(block), byte(piece)}
	return append(data, some(size, length)...)
}

// checkText: a packet is written down and read back; what is none is refused by both calls.
func checkText(t *testing.T, data []byte, is bool) {
	t.Helper()
	text, want, e := spelt(data), data, api.OK
	if !is {
		want, e = nil, api.ErrPiece
	}
	if got, f := fascine.Packet(text); !bytes.Equal(got, want) || f != e {
		t.Errorf("P5: Packet(%q) = %v, %d, want %v, %d", text, got, f, want, e)
	}
	if !is {
		text = ""
	}
	if got, f := fascine.Text(data); got != text || f != e {
		t.Errorf("P5: Text(%v) = %q, %d, want %q, %d", data, got, f, text, e)
	}
}

func checkNoText(t *testing.T, text string) {
	t.Helper()
	if got, e := fascine.Packet(text); len(got) != 0 || e != api.ErrText {
		t.Errorf("P5: Packet(%q) = %v, %d, want ErrText", text, got, e)
	}
}

func TestP5Example(t *testing.T) {
	if got, e := fascine.Text([]byte(examplePacket)); got != exampleText || e != api.OK {
		t.Errorf("P5: Text = %q, %d", got, e)
	}
	for _, text := range []string{exampleText, " RgAF AAICAQ EAAGFi ", "RgAF\nAAICAQEA\n\n \nAGFi\n"} {
		if got, e := fascine.Packet(text); string(got) != examplePacket || e != api.OK {
			t.Errorf("P5: Packet(%q) = %v, %d", text, got, e)
		}
	}
	checkNoText(t, "A")
	if got, e := fascine.Packet("AA"); len(got) != 0 || e != api.ErrPiece {
		t.Errorf("P5: Packet(AA) = %v, %d", got, e)
	}
}

func TestP5EachLetter(t *testing.T) {
	for n, letter := range []rune(alphabet) {
		// The piece's bytes 2 to 4 are four letters of their own: the bytes ahead of them are 12.
		data := packetOf(5, api.Plan{Size: 5, Most: 1}, 0, 0, 5)
		data[12], data[13], data[14] = byte(n<<2|n>>4), byte(n<<4|n>>2), byte(n<<6|n)
		text, e := fascine.Text(data)
		if e != api.OK || !strings.HasSuffix(text, strings.Repeat(string(letter), 4)) {
			t.Errorf("P5: letter %d is not %c: Text(%v) = %q, %d", n, letter, data, text, e)
		}
		checkText(t, data, true)
	}
}

func TestP5EachRune(t *testing.T) {
	for r := range rune(0x110000) {
		// Four letters, or three and something that means nothing, are whole bytes and bits 0: no packet, but text.
		want := api.ErrText
		if strings.ContainsRune(alphabet+" \n", r) {
			want = api.ErrPiece
		}
		for _, text := range []string{"AAA" + string(r), string(r) + "AAA"} {
			if got, e := fascine.Packet(text); e != want || len(got) != 0 {
				t.Fatalf("P5: Packet(%q) = %v, %d, want %d", text, got, e, want)
			}
		}
	}
}

func TestP5OtherLetters(t *testing.T) {
	for _, letter := range []string{
		"\u03b0", "\u03bd", "@", "[", "`", "{", "0", "9", "+", "/", "-", "_", "=", "\r", "\t", "\x00", "\v", "\f",
		"\u00b5", "\u00a0", "\u0085", "\u2028", "\u3000", "\ufeff", "\ufffd", "\u0391", "\u039c", "\u0410", "\uff21",
		"\U0001d6fc", "\u0301", "é",
	} {
		for at := range len(exampleText) + 1 {
			checkNoText(t, exampleText[:at]+letter+exampleText[at:])
		}
		checkNoText(t, letter)
	}
}

func TestP5NoUTF8(t *testing.T) {
	for _, wrong := range []string{
		"\xff", "\xfe", "\x80", "\xbf", "\xce", "\xcf", "\xc0\x80", "\xc1\x81", "\xe0\x80\xa0", "\xed\xa0\x80", "\xf4\x90\x80\x80",
		"\xe2\x82", "\xf0\x9f\x92", "\xce\xce\xb1", "\xb1\xce",
	} {
		for at := range len(exampleText) + 1 {
			checkNoText(t, exampleText[:at]+wrong+exampleText[at:])
		}
		checkNoText(t, wrong)
		checkNoText(t, " "+wrong+"\n")
	}
	// Half of a Greek letter at the end; the letters ahead of it are a packet's, with bits 0 behind.
	text := spelt([]byte("F\x00\x00\x00\x01\x01\x01\x00\x00\x00\xff"))
	checkNoText(t, text+"\xce")
	checkNoText(t, text[:len(text)-1])
}

func TestP5BlanksAnywhere(t *testing.T) {
	letters := []rune(spelt([]byte("F\xff\xfe\x00\x03\x03\x01\x00\x00\x00\xff\xff\xff")))
	for _, nothing := range []string{" ", "\n", "  ", "\n\n", " \n ", "\n \n", strings.Repeat(" \n", 500)} {
		for at := range len(letters) + 1 {
			text := string(letters[:at]) + nothing + string(letters[at:])
			if got, e := fascine.Packet(text); string(got) != "F\xff\xfe\x00\x03\x03\x01\x00\x00\x00\xff\xff\xff" || e != api.OK {
				t.Errorf("P5: Packet(%q) = %v, %d", text, got, e)
			}
		}
		if got, e := fascine.Packet(nothing); len(got) != 0 || e != api.ErrPiece {
			t.Errorf("P5: Packet(%q) = %v, %d", nothing, got, e)
		}
		checkNoText(t, nothing+"A"+nothing)
		checkNoText(t, nothing+"A"+nothing+"B"+nothing)
	}
}

// Pieces of 2, 1 and 3 bytes leave no bits, two and four behind the last whole byte.
func TestP5BitsBehind(t *testing.T) {
	for _, c := range []struct{ size, bits int }{{2, 0}, {1, 2}, {3, 4}, {14, 0}, {16, 2}, {15, 4}} {
		data := packetOf(9, api.Plan{Size: c.size, Most: 9}, 0, 0, c.size)
		checkText(t, data, true)
		letters := []rune(spelt(data))
		last := slices.Index([]rune(alphabet), letters[len(letters)-1])
		for n := 1; n < 1<<c.bits; n++ {
			letters[len(letters)-1] = []rune(alphabet)[last|n]
			checkNoText(t, string(letters))
			checkNoText(t, string(letters)+" ")
		}
	}
	for _, letter := range alphabet {
		checkNoText(t, exampleText+string(letter))
		checkNoText(t, string(letter))
		checkNoText(t, "AAAA"+string(letter))
	}
}

func TestP5LettersTooMany(t *testing.T) {
	for _, more := range []string{"AA", "AAA", "AAAA", "AAAAAA", exampleText} {
		if got, e := fascine.Packet(exampleText + more); len(got) != 0 || e != api.ErrPiece {
			t.Errorf("P5: Packet(%q) = %v, %d", exampleText+more, got, e)
		}
	}
}

func TestP5Lengths(t *testing.T) {
	for _, length := range []int{0, 1, 255, 256, 257, 1999, 2000, 2001, 2002, 2047, 2048, 4000, 32768, 65535} {
		checkText(t, packetOf(length, api.Plan{Size: 16, Most: 20, Spare: 3}, 0, 0, 16), length <= 2000)
		checkText(t, packetOf(length, api.Plan{Size: 8, Most: 1}, 0, 0, 8), length <= 2000)
	}
}

func TestP5Plans(t *testing.T) {
	for n := range 256 {
		checkText(t, packetOf(5, api.Plan{Size: n, Most: 3, Spare: 2}, 0, 0, n), 1 <= n && n <= 16)
		checkText(t, packetOf(5, api.Plan{Size: 2, Most: n, Spare: 2}, 0, 0, 2), 1 <= n && n <= 20)
		checkText(t, packetOf(5, api.Plan{Size: 2, Most: 3, Spare: n}, 0, 0, 2), n <= 20)
		checkText(t, packetOf(0, api.Plan{Size: n, Most: 20, Spare: 20}, 0, 0, n), 1 <= n && n <= 16)
		checkText(t, packetOf(0, api.Plan{Size: 16, Most: n, Spare: 20}, 0, 0, 16), 1 <= n && n <= 20)
		checkText(t, packetOf(0, api.Plan{Size: 16, Most: 20, Spare: n}, 0, 0, 16), n <= 20)
	}
	checkText(t, packetOf(0, api.Plan{}, 0, 0, 0), false)
}

// The last block and the last piece, and one beyond, in blocks of both sizes.
func TestP5BlocksAndPieces(t *testing.T) {
	for _, c := range []struct {
		length int
		plan   api.Plan
	}{
		{30, api.Plan{Size: 4, Most: 3, Spare: 2}}, {30, api.Plan{Size: 4, Most: 3}}, {0, api.Plan{Size: 4, Most: 3, Spare: 20}},
		{2000, api.Plan{Size: 16, Most: 20, Spare: 20}}, {2, api.Plan{Size: 2, Most: 1, Spare: 1}},
		{256, api.Plan{Size: 1, Most: 1, Spare: 20}}, {255, api.Plan{Size: 1, Most: 1}}, {1792, api.Plan{Size: 1, Most: 7, Spare: 1}},
		{400, api.Plan{Size: 1, Most: 20, Spare: 20}},
	} {
		blocks := dealt(c.length, c.plan)
		for block := range 256 {
			count := 0
			if block < len(blocks) {
				count = blocks[block] + c.plan.Spare
			}
			for _, piece := range []int{0, max(0, count-1), count, count + 1, 255} {
				checkText(t, packetOf(c.length, c.plan, block, piece, c.plan.Size), piece < count)
			}
		}
	}
}

func TestP5CannotBeCut(t *testing.T) {
	checkText(t, packetOf(256, api.Plan{Size: 1, Most: 1}, 255, 0, 1), true)
	checkText(t, packetOf(257, api.Plan{Size: 1, Most: 1}, 0, 0, 1), false)
	checkText(t, packetOf(257, api.Plan{Size: 1, Most: 2}, 128, 0, 1), true)
	checkText(t, packetOf(2000, api.Plan{Size: 7, Most: 1, Spare: 20}, 0, 0, 7), false)
	checkText(t, packetOf(2000, api.Plan{Size: 8, Most: 1, Spare: 20}, 249, 20, 8), true)
}

func TestP5BytesTooFewAndTooMany(t *testing.T) {
	for size := 1; size <= 16; size++ {
		whole := packetOf(5, api.Plan{Size: size, Most: 5}, 0, 0, 300)
		for count := range whole {
			checkText(t, whole[:count], count == 10+size)
		}
	}
	checkText(t, nil, false)
	checkText(t, []byte{}, false)
}

func TestP5FirstByte(t *testing.T) {
	for b := range 256 {
		data := []byte(examplePacket)
		data[0] = byte(b)
		checkText(t, data, b == 70)
	}
}

// Any bytes may fill up the last piece, and any Id may be.
func TestP5WhatMayBeAny(t *testing.T) {
	for b := range 256 {
		data := packetOf(4, api.Plan{Size: 3, Most: 1}, 1, 0, 3)
		data[11], data[12] = byte(b), byte(255-b)
		checkText(t, data, true)
		data[1], data[2] = byte(b), byte(b+1)
		checkText(t, data, true)
		checkText(t, []byte{70, 0, 0, 0, 0, 1, 1, 0, 0, 0, byte(b)}, true)
	}
}

// Each packet with each one of its numbers set to each byte.
func TestP5EachNumber(t *testing.T) {
	for _, p := range plans {
		for _, length := range []int{0, 33, 255} {
			for at := range 10 {
				for b := range 256 {
					data := packetOf(length, p, 0, 0, p.Size)
					data[at] = byte(b)
					checkText(t, data, isPacket(data))
				}
			}
		}
	}
}

// ErrText is named ahead of ErrPiece: these texts say no packet either.
func TestP5TextFirst(t *testing.T) {
	for _, text := range []string{
		"A", "AB", "AAB", "AA0", "0", "\xff", "AA\xff", "QgAFAAICAQEAAGFiA", "QgAFAAICAQEAAGF0", "RgAFAAICAQEAAGF", "RgAFAAICAQEAAG\u03bc",
		strings.Repeat("A", 1000) + "0", strings.Repeat("A", 1001),
	} {
		checkNoText(t, text)
	}
}

func TestP12PacketOfText(t *testing.T) {
	for _, p := range plans {
		for _, length := range []int{0, 1, 2, 16, 33, 255, 2000} {
			packets, e := fascine.Packets(65535-length, some(length, p.Most), p)
			if e != api.OK && len(dealt(length, p)) <= 256 {
				t.Fatalf("P4: Packets of %d bytes, %+v: %d", length, p, e)
			}
			for _, packet := range packets {
				checkText(t, packet, true)
			}
		}
	}
}

func TestP1LongTexts(t *testing.T) {
	for _, part := range []string{"A", "\u03bc", " ", "\n", "R", "0", "\xff", "\xce", exampleText, "AA\n"} {
		for _, count := range []int{1, 2, 3, 4, 1000, 1001, 1002, 1003, 300000} {
			got, e := fascine.Packet(strings.Repeat(part, count))
			if is := part == exampleText && count == 1; is != (e == api.OK) || is != (len(got) > 0) || !is && e != api.ErrText && e != api.ErrPiece {
				t.Errorf("P1: Packet(%d times %q) = %d bytes, %d", count, part, len(got), e)
			}
		}
	}
	if got, e := fascine.Text(make([]byte, 1<<20)); got != "" || e != api.ErrPiece {
		t.Errorf("P1: Text of bytes 0: %d bytes, %d", len(got), e)
	}
}

func TestP2TextDoesNotWrite(t *testing.T) {
	whole := append([]byte(examplePacket), some(50, 1)...)
	was := bytes.Clone(whole)
	for count := range whole {
		text, _ := fascine.Text(whole[:count])
		if !bytes.Equal(whole, was) {
			t.Fatalf("P2: Text writes into the packet, or behind it")
		}
		if count == len(examplePacket) {
			clear(whole)
			if text != exampleText {
				t.Errorf("P2: the text changes with the packet")
			}
			copy(whole, was)
		}
	}
}

func TestP2PacketIsNew(t *testing.T) {
	long := spelt(packetOf(9, api.Plan{Size: 16, Most: 9}, 0, 0, 16))
	for _, text := range []string{exampleText, long} {
		one, _ := fascine.Packet(text)
		two, _ := fascine.Packet(text)
		was := bytes.Clone(two)
		one = one[:cap(one)]
		for i := range one {
			one[i] ^= 255
		}
		spare := bytes.Clone(one)
		three, _ := fascine.Packet(text)
		if !bytes.Equal(two, was) || !bytes.Equal(three, was) || len(was) == 0 {
			t.Errorf("P2: answers of Packet share memory: %v, %v, want %v", two, three, was)
		}
		clear(two[:cap(two)])
		if !bytes.Equal(one, spare) {
			t.Errorf("P2: two answers of Packet share memory")
		}
		if spelt(was) != text {
			t.Errorf("P2: the text is %q, not %q", spelt(was), text)
		}
	}
}
