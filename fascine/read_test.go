package fascine_test

import (
	"slices"
	"strings"
	"testing"

	"fascine/api"
	"fascine/fascine"
)

func checkRead(t *testing.T, l *fascine.Listener, text string, want, line int, e api.Errno) {
	t.Helper()
	if got, at, f := l.Read(text); got != want || at != line || f != e {
		t.Errorf("P7: Read(%q) = %d, %d, %d, want %d, %d, %d", text, got, at, f, want, line, e)
	}
}

func textsOf(packets [][]byte) []string {
	var texts []string
	for _, packet := range packets {
		texts = append(texts, spelt(packet))
	}
	return texts
}

func TestP7NothingToRead(t *testing.T) {
	l := fascine.New()
	for _, text := range []string{"", " ", "   ", "\n", "\n\n\n", " \n", "\n ", "  \n   \n \n", strings.Repeat(" \n", 1000)} {
		checkRead(t, l, text, 0, 0, api.OK)
	}
	checkIds(t, l)
}

func TestP7Lines(t *testing.T) {
	texts := textsOf(expected(9, some(30, 9), middle))
	all := len(texts)
	for _, text := range []string{
		strings.Join(texts, "\n"), strings.Join(texts, "\n") + "\n", "\n" + strings.Join(texts, "\n"),
		strings.Join(texts, "\n\n  \n"), " " + strings.Join(texts, " \n ") + " ", strings.Join(texts, "\n") + "\n   ",
	} {
		l := fascine.New()
		checkRead(t, l, text, all, 0, api.OK)
		checkHeard(t, l, map[int]int{9: all})
		checkObject(t, l, 9, some(30, 9), api.OK)
		checkRead(t, l, text, 0, 0, api.OK)
		checkRead(t, l, text+"\n"+spelt(expected(8, nil, small)[0]), 1, 0, api.OK)
	}
}

func TestP7BlanksInLines(t *testing.T) {
	for at, letter := range exampleText {
		checkRead(t, fascine.New(), exampleText[:at]+"  "+exampleText[at:], 1, 0, api.OK)
		// Broken into two lines, each is read alone.
		l := fascine.New()
		got, line, e := l.Read(exampleText[:at] + "\n" + exampleText[at:])
		if at == 0 && (got != 1 || e != api.OK) || at > 0 && (got != 0 || line != 0 || e != api.ErrText && e != api.ErrPiece) {
			t.Errorf("P7: broken ahead of %c: %d, %d, %d", letter, got, line, e)
		}
	}
}

func TestP7Again(t *testing.T) {
	l := fascine.New()
	checkRead(t, l, exampleText+"\n"+exampleText+"\n\n"+exampleText, 1, 0, api.OK)
	checkRead(t, l, exampleText, 0, 0, api.OK)
	checkHear(t, l, 0, api.OK, []byte(examplePacket))
	checkHeard(t, l, map[int]int{5: 1})
}

// Only blanks make a line that is passed over.
func TestP7OtherBlanks(t *testing.T) {
	for _, nothing := range []string{"\r", "\t", "\v", "\f", "\x00", "\u00a0", "\u0085", "\u2028", "\u3000", "\ufeff", "\xa0", " \r", "\t "} {
		l := fascine.New()
		checkRead(t, l, "\n"+nothing+"\n"+exampleText, 0, 1, api.ErrText)
		checkRead(t, l, exampleText+nothing, 0, 0, api.ErrText)
		checkRead(t, l, " \n"+exampleText+"\n"+nothing, 1, 2, api.ErrText)
	}
}

// wrongLine, what it is answered with by a listener that is full and has heard Id 4.
type wrongLine struct {
	text string
	e    api.Errno
}

var wrongLines = []wrongLine{
	{"A", api.ErrText}, {"\u00e9", api.ErrText}, {"\xff", api.ErrText}, {"0", api.ErrText}, {exampleText + "A", api.ErrText},
	{"AA", api.ErrPiece}, {exampleText + exampleText, api.ErrPiece}, {exampleText[:12], api.ErrPiece}, {exampleText + " AA", api.ErrPiece},
	{spelt(expected(4, some(29, 4), middle)[0]), api.ErrOther}, {spelt(changed(expected(4, some(2, 4), small)[0], 10, 1)), api.ErrOther},
	{spelt(expected(99, some(2, 9), small)[0]), api.ErrFull}, {"  " + spelt(expected(99, some(2, 9), small)[0]) + " ", api.ErrFull},
}

// fullListener has heard of 8 objects: 3 (its packet 5 alone), 4 and others.
func fullListener(t *testing.T) *fascine.Listener {
	t.Helper()
	l := fascine.New()
	checkHear(t, l, 1, api.OK, expected(4, some(2, 4), small)[0])
	checkHear(t, l, 1, api.OK, expected(3, some(30, 3), middle)[5])
	for id := 10; id < 16; id++ {
		checkHear(t, l, 1, api.OK, expected(id, nil, small)[0])
	}
	return l
}

// The wrong line as the first, the last, and at each place between.
func TestP7Errors(t *testing.T) {
	good := textsOf(expected(3, some(30, 3), middle))
	for _, c := range wrongLines {
		for at := range len(good) + 1 {
			l := fullListener(t)
			lines := slices.Insert(slices.Clone(good), at, c.text)
			want := at
			if at > 5 {
				want--
			}
			checkRead(t, l, strings.Join(lines, "\n"), want, at, c.e)
			checkHeard(t, l, map[int]int{3: want + 1, 4: 1, 10: 1, 11: 1, 12: 1, 13: 1, 14: 1, 15: 1})
			// Lines that are passed over are counted in a line's number.
			checkRead(t, l, "\n  \n"+strings.Join(lines, "\n\n")+"\n", 0, 2+2*at, c.e)
			checkRead(t, l, strings.Join(good, "\n"), len(good)-want-1, 0, api.OK)
		}
	}
}

func TestP7FirstError(t *testing.T) {
	l := fascine.New()
	checkRead(t, l, exampleText+"\nAA\nA\n\xff", 1, 1, api.ErrPiece)
	checkRead(t, l, exampleText+"\n\nA\nAA", 0, 2, api.ErrText)
	checkRead(t, l, "A", 0, 0, api.ErrText)
	checkRead(t, l, "AA", 0, 0, api.ErrPiece)
	checkRead(t, l, "\n\n\n\u00e9", 0, 3, api.ErrText)
	checkRead(t, l, "RgAFAAICAQEAAGFj", 0, 0, api.ErrOther)
	checkHeard(t, l, map[int]int{5: 1})
}

// A rune that is broken by a line's end is no UTF-8 in either line.
func TestP7NoUTF8(t *testing.T) {
	checkRead(t, fascine.New(), exampleText+"\n\xce\n\xb1", 1, 1, api.ErrText)
	checkRead(t, fascine.New(), exampleText+"\n\n\xb1", 1, 2, api.ErrText)
}

func TestP12ReadIsHear(t *testing.T) {
	for _, p := range plans {
		for _, length := range []int{0, 1, 33, 255} {
			one, two := fascine.New(), fascine.New()
			packets := slices.Concat(expected(1, some(length, 1), p), expected(65535, some(length, 2), p))
			for i := range packets {
				packet := packets[i*7%len(packets)]
				a, e := one.Hear(packet)
				b, line, f := two.Read(spelt(packet))
				if a != b || e != f || line != 0 {
					t.Fatalf("P12: packet %d: Hear %d, %d, Read %d, %d, %d", i, a, e, b, line, f)
				}
				checkSame(t, one, two)
			}
		}
	}
}

// checkSame: two listeners heard the same.
func checkSame(t *testing.T, one, two *fascine.Listener) {
	t.Helper()
	checkIds(t, two, one.Ids()...)
	for _, id := range one.Ids() {
		look, e := one.Look(id)
		checkLook(t, two, id, look, e)
		object, e := one.Object(id)
		checkObject(t, two, id, object, e)
	}
}
