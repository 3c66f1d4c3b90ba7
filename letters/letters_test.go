package letters

import (
	"bytes"
	"testing"

	"fascine/api"
	"fascine/fault"
)

func read(text string) (data []byte, e api.Errno) {
	defer func() {
		if r := recover(); r != nil {
			data, e = nil, fault.Errno(r)
		}
	}()
	return Read(text), api.OK
}

func TestAlphabet(t *testing.T) {
	const want = "ABCDEFGHIJKLMNOPQRSTUVWXYZabcdefghijklmnopqrstuvwxyz\u03b1\u03b2\u03b3\u03b4\u03b5\u03b6\u03b7\u03b8\u03b9\u03ba\u03bb\u03bc"
	if got := string(alphabet[:]); got != want {
		t.Errorf("the letters are %q", got)
	}
	for n, letter := range []rune(want) {
		if got := number(letter); got != n {
			t.Errorf("the number of %c is %d, want %d", letter, got, n)
		}
	}
}

func TestWriteAndRead(t *testing.T) {
	for text, data := range map[string]string{
		"": "", "AA": "\x00", "AQ": "\x01", "μw": "\xff", "AAA": "\x00\x00", "AAE": "\x00\x01", "μμι": "\xff\xff",
		"AAAA": "\x00\x00\x00", "αβγδ": "\xd3\x5d\xb7", "μμμμ": "\xff\xff\xff", "AAAAgA": "\x00\x00\x00\x80",
	} {
		if got := Write([]byte(data)); got != text {
			t.Errorf("Write(%q) = %q, want %q", data, got, text)
		}
		if got, e := read(text); string(got) != data || e != api.OK {
			t.Errorf("Read(%q) = %q, %d, want %q", text, got, e, data)
		}
	}
}

func TestAllBytesComeBack(t *testing.T) {
	var data []byte
	for n := range 1000 {
		if got, e := read(Write(data)); !bytes.Equal(got, data) || e != api.OK {
			t.Fatalf("%v came back as %v, %d", data, got, e)
		}
		data = append(data, byte(n*n+n/7))
	}
}

func TestReadGivesUp(t *testing.T) {
	for _, text := range []string{"A", "AAAAA", "AB", "AI", "AAB", "AAC", "AA0", "\xce", "AA\xff", "\ufffd\ufffd"} {
		if got, e := read(text); got != nil || e != api.ErrText {
			t.Errorf("Read(%q) = %q, %d", text, got, e)
		}
	}
}
