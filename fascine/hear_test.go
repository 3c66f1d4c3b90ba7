package fascine_test

import (
	"bytes"
	"slices"
	"testing"

	"fascine/api"
	"fascine/fascine"
)

func checkHear(t *testing.T, l *fascine.Listener, want int, e api.Errno, packets ...[]byte) {
	t.Helper()
	if got, f := l.Hear(packets...); got != want || f != e {
		t.Errorf("P6: Hear of %d packets = %d, %d, want %d, %d", len(packets), got, f, want, e)
	}
}

func checkIds(t *testing.T, l *fascine.Listener, want ...int) {
	t.Helper()
	if got := l.Ids(); !slices.Equal(got, want) {
		t.Errorf("P8: Ids = %v, want %v", got, want)
	}
}

func checkLook(t *testing.T, l *fascine.Listener, id int, want api.Look, e api.Errno) {
	t.Helper()
	if got, f := l.Look(id); got != want || f != e {
		t.Errorf("P8: Look(%d) = %+v, %d, want %+v, %d", id, got, f, want, e)
	}
}

func checkObject(t *testing.T, l *fascine.Listener, id int, want []byte, e api.Errno) {
	t.Helper()
	if got, f := l.Object(id); !bytes.Equal(got, want) || f != e {
		t.Errorf("P9: Object(%d) = %v, %d, want %v, %d", id, got, f, want, e)
	}
}

// checkHeard: how many pieces of each Id were heard; nothing of any other.
func checkHeard(t *testing.T, l *fascine.Listener, want map[int]int) {
	t.Helper()
	for _, id := range l.Ids() {
		if look, e := l.Look(id); e != api.OK || look.Heard != want[id] || want[id] == 0 {
			t.Errorf("P6: of %d were heard %d pieces, %d, want %d", id, look.Heard, e, want[id])
		}
	}
	if len(l.Ids()) != len(want) {
		t.Errorf("P6: Ids = %v, want %d of them", l.Ids(), len(want))
	}
}

// changed: a copy of the packet with another byte at that place.
func changed(packet []byte, at int, by byte) []byte {
	other := bytes.Clone(packet)
	other[at] ^= by
	return other
}

var (
	small  = api.Plan{Size: 2, Most: 1, Spare: 1}
	middle = api.Plan{Size: 4, Most: 3, Spare: 2}
)

func TestP6Example(t *testing.T) {
	l := fascine.New()
	first, second := []byte(examplePacket), []byte("F\x00\x05\x00\x02\x02\x01\x01\x00\x01\x9a\x80")
	checkHear(t, l, 1, api.OK, second)
	checkLook(t, l, 5, api.Look{Length: 2, Plan: small, Heard: 1, Blocks: 1, Whole: 1}, api.OK)
	checkObject(t, l, 5, []byte("ab"), api.OK)
	checkHear(t, l, 1, api.OK, first)
	checkHear(t, l, 0, api.OK, first)
	checkHear(t, l, 0, api.ErrOther, []byte("F\x00\x05\x00\x02\x02\x01\x01\x00\x00ac"))
	checkHear(t, l, 0, api.ErrOther, []byte("F\x00\x05\x00\x02\x01\x02\x01\x00\x00a"))
	checkLook(t, l, 5, api.Look{Length: 2, Plan: small, Heard: 2, Blocks: 1, Whole: 1}, api.OK)
	checkObject(t, l, 5, []byte("ab"), api.OK)
}

func TestP6NothingHeard(t *testing.T) {
	l := fascine.New()
	for range 2 {
		checkHear(t, l, 0, api.OK)
		checkHear(t, l, 0, api.OK, [][]byte{}...)
		checkIds(t, l)
		for _, id := range []int{0, 1, 5, 65535} {
			checkLook(t, l, id, api.Look{}, api.ErrNone)
			checkObject(t, l, id, nil, api.ErrNone)
		}
	}
}

func TestP6AllPackets(t *testing.T) {
	for _, p := range plans {
		for _, length := range []int{0, 1, 33, 255} {
			object := some(length, p.Spare)
			packets := expected(7, object, p)
			l := fascine.New()
			for i, packet := range packets {
				checkHear(t, l, 1, api.OK, packet)
				checkHear(t, l, 0, api.OK, packets[:i+1]...)
			}
			checkHeard(t, l, map[int]int{7: len(packets)})
			checkHear(t, fascine.New(), len(packets), api.OK, packets...)
			checkHear(t, fascine.New(), len(packets), api.OK, slices.Concat(packets, packets)...)
		}
	}
}

func TestP6SamePieceWithOtherBytes(t *testing.T) {
	for _, packet := range expected(300, some(30, 3), middle) {
		l := fascine.New()
		checkHear(t, l, 1, api.OK, packet)
		for at := 10; at < len(packet); at++ {
			for _, by := range []byte{1, 128, 255} {
				checkHear(t, l, 0, api.ErrOther, changed(packet, at, by))
			}
		}
		checkHear(t, l, 0, api.OK, packet)
		checkHeard(t, l, map[int]int{300: 1})
	}
}

// The same number in another block, or in another object, is no same piece.
func TestP6OtherPieceWithOtherBytes(t *testing.T) {
	l := fascine.New()
	checkHear(t, l, 1, api.OK, packetOf(30, middle, 0, 1, 4))
	checkHear(t, l, 1, api.OK, changed(packetOf(30, middle, 1, 1, 4), 11, 9))
	checkHear(t, l, 1, api.OK, changed(packetOf(30, middle, 0, 2, 4), 12, 9))
	checkHear(t, l, 1, api.OK, changed(changed(packetOf(30, middle, 0, 1, 4), 1, 1), 12, 9))
	checkHear(t, l, 1, api.OK, changed(changed(packetOf(30, middle, 0, 1, 4), 2, 1), 12, 9))
	checkHeard(t, l, map[int]int{258: 3, 2: 1, 259: 1})
}

// Another length and each of a plan's three numbers another: of the piece that was heard, and of others.
func TestP6OtherLengthOrPlan(t *testing.T) {
	l := fascine.New()
	checkHear(t, l, 1, api.OK, packetOf(30, middle, 0, 0, 4))
	for _, c := range []struct {
		length int
		plan   api.Plan
	}{
		{29, middle}, {31, middle}, {30 + 256, middle}, {0, middle}, {2000, middle},
		{30, api.Plan{Size: 3, Most: 3, Spare: 2}}, {30, api.Plan{Size: 5, Most: 3, Spare: 2}},
		{30, api.Plan{Size: 4, Most: 2, Spare: 2}}, {30, api.Plan{Size: 4, Most: 4, Spare: 2}},
		{30, api.Plan{Size: 4, Most: 20, Spare: 2}},
		{30, api.Plan{Size: 4, Most: 3, Spare: 1}}, {30, api.Plan{Size: 4, Most: 3, Spare: 3}},
		{30, api.Plan{Size: 4, Most: 3, Spare: 0}}, {15, api.Plan{Size: 2, Most: 3, Spare: 2}},
		{31, api.Plan{Size: 16, Most: 20, Spare: 20}},
	} {
		for z, count := range dealt(c.length, c.plan) {
			for n := range count + c.plan.Spare {
				checkHear(t, l, 0, api.ErrOther, packetOf(c.length, c.plan, z, n, c.plan.Size))
			}
		}
	}
	checkHeard(t, l, map[int]int{258: 1})
	checkHear(t, l, 1, api.OK, packetOf(30, middle, 2, 3, 4))
}

// Plans and lengths that cut an object the same way are others nevertheless.
func TestP6OtherThoughCutTheSame(t *testing.T) {
	l := fascine.New()
	checkHear(t, l, 1, api.OK, []byte{70, 0, 1, 0, 3, 4, 1, 0, 0, 0, 1, 2, 3, 0})
	checkHear(t, l, 0, api.ErrOther, []byte{70, 0, 1, 0, 3, 4, 2, 0, 0, 0, 1, 2, 3, 0})
	checkHear(t, l, 0, api.ErrOther, []byte{70, 0, 1, 0, 2, 4, 1, 0, 0, 0, 1, 2, 3, 0})
	checkHear(t, l, 0, api.ErrOther, []byte{70, 0, 1, 0, 3, 4, 1, 1, 0, 0, 1, 2, 3, 0})
	checkHear(t, l, 0, api.OK, []byte{70, 0, 1, 0, 3, 4, 1, 0, 0, 0, 1, 2, 3, 0})
}

// Bytes that fill up the last piece are bytes of it.
func TestP6OtherFilling(t *testing.T) {
	l := fascine.New()
	packet := []byte{70, 0, 1, 0, 1, 3, 1, 0, 0, 0, 9, 8, 7}
	checkHear(t, l, 1, api.OK, packet)
	checkHear(t, l, 0, api.ErrOther, changed(packet, 11, 8))
	checkHear(t, l, 0, api.ErrOther, changed(packet, 12, 7))
	checkHear(t, l, 0, api.OK, packet)
	checkObject(t, l, 1, []byte{9}, api.OK)
}

func TestP6EveryId(t *testing.T) {
	ids := []int{65535, 0, 256, 1, 255, 65280, 257, 32768}
	l := fascine.New()
	for i, id := range ids {
		checkHear(t, l, 2, api.OK, expected(id, some(2, i), small)...)
	}
	checkIds(t, l, 0, 1, 255, 256, 257, 32768, 65280, 65535)
	for i, id := range ids {
		checkLook(t, l, id, api.Look{Length: 2, Plan: small, Heard: 2, Blocks: 1, Whole: 1}, api.OK)
		checkObject(t, l, id, some(2, i), api.OK)
	}
}

func TestP6Full(t *testing.T) {
	l := fascine.New()
	for id := range 8 {
		checkHear(t, l, 1, api.OK, expected(id, some(2, id), small)[0])
	}
	for _, id := range []int{8, 9, 256, 65535} {
		checkHear(t, l, 0, api.ErrFull, expected(id, some(2, id), small)[0])
		checkHear(t, l, 0, api.ErrFull, expected(id, some(30, id), middle)...)
		checkLook(t, l, id, api.Look{}, api.ErrNone)
		checkObject(t, l, id, nil, api.ErrNone)
	}
	checkIds(t, l, 0, 1, 2, 3, 4, 5, 6, 7)
	for id := range 8 {
		checkHear(t, l, 1, api.OK, expected(id, some(2, id), small)...)
		checkHear(t, l, 0, api.ErrOther, expected(id, some(3, id), small)[0])
		checkHear(t, l, 0, api.ErrOther, changed(expected(id, some(2, id), small)[1], 10, 1))
		checkHear(t, l, 0, api.ErrFull, expected(8, some(2, id), small)[0])
	}
	checkHear(t, l, 0, api.ErrPiece, expected(8, some(2, 8), small)[0][:11])
}

// A packet that was not heard leaves no object behind that would count.
func TestP6FullOnlyOfHeard(t *testing.T) {
	l := fascine.New()
	for id := range 20 {
		checkHear(t, l, 0, api.ErrPiece, expected(id, some(2, id), small)[0][:11])
		checkHear(t, l, 0, api.ErrPiece, changed(expected(id, some(2, id), small)[0], 8, 1))
	}
	checkIds(t, l)
	for id := range 8 {
		checkHear(t, l, 2, api.OK, expected(id, some(2, id), small)...)
	}
}

// Each number ahead of the piece set to each byte, of an object that was heard.
func TestP6NoPacket(t *testing.T) {
	packet := expected(0x4646, some(30, 1), middle)[6]
	for at := range 10 {
		for b := range 256 {
			other := bytes.Clone(packet)
			other[at] = byte(b)
			l := fascine.New()
			checkHear(t, l, 1, api.OK, packet)
			want, e := 0, api.ErrPiece
			switch {
			case !isPacket(other):
			case bytes.Equal(other, packet):
				e = api.OK
			case 3 <= at && at < 8:
				e = api.ErrOther
			default:
				want, e = 1, api.OK
			}
			checkHear(t, l, want, e, other)
		}
	}
	l := fascine.New()
	for count := range packet {
		checkHear(t, l, 0, api.ErrPiece, packet[:count])
	}
	for more := range 40 {
		checkHear(t, l, 0, api.ErrPiece, append(bytes.Clone(packet), some(more+1, more)...))
	}
	checkHear(t, l, 0, api.ErrPiece, nil)
	checkHear(t, l, 0, api.ErrPiece, []byte{})
	checkHear(t, l, 0, api.ErrPiece, []byte(exampleText))
	checkIds(t, l)
}

// The wrong packet at each place among good ones: those ahead of it are heard and counted, those behind it are not.
func TestP6ErrorInTheMidst(t *testing.T) {
	good := expected(3, some(30, 3), middle)
	for _, c := range []struct {
		wrong []byte
		e     api.Errno
	}{
		{nil, api.ErrPiece}, {good[0][:13], api.ErrPiece},
		{expected(4, some(29, 4), middle)[0], api.ErrOther}, {changed(expected(4, some(2, 4), small)[0], 10, 1), api.ErrOther},
		{expected(99, some(2, 9), small)[0], api.ErrFull},
	} {
		for at := range len(good) + 1 {
			l := fascine.New()
			heard := map[int]int{4: 1}
			checkHear(t, l, 1, api.OK, expected(4, some(2, 4), small)[0])
			for id := 10; id < 16; id++ {
				checkHear(t, l, 1, api.OK, expected(id, nil, small)[0])
				heard[id] = 1
			}
			checkHear(t, l, 1, api.OK, good[5])
			again := slices.Insert(slices.Clone(good), at, c.wrong)
			want := at
			if at > 5 {
				want--
			}
			checkHear(t, l, want, c.e, again...)
			heard[3] = want + 1
			checkHeard(t, l, heard)
			// What is behind the error was not heard: it is new when it comes again.
			checkHear(t, l, len(good)-heard[3], api.OK, good...)
			checkObject(t, l, 3, some(30, 3), api.OK)
		}
	}
}

// Where several packets are wrong, the first one is told.
func TestP6FirstError(t *testing.T) {
	good := expected(4, some(2, 4), small)
	other := changed(good[0], 11, 1)
	l := fascine.New()
	checkHear(t, l, 1, api.ErrOther, good[0], other, nil, good[1])
	checkHear(t, l, 0, api.ErrPiece, good[0], nil, other, good[1])
	checkHear(t, l, 1, api.ErrOther, good[1], good[0], good[0], other, nil)
	checkHeard(t, l, map[int]int{4: 2})
}

// One wrong in two ways: ErrPiece is named first, then ErrOther, then ErrFull.
func TestP6ErrorNamedFirst(t *testing.T) {
	l := fascine.New()
	for id := range 8 {
		checkHear(t, l, 1, api.OK, expected(id, some(30, id), middle)[0])
	}
	checkHear(t, l, 0, api.ErrPiece, changed(packetOf(29, middle, 0, 0, 5), 1, 1))
	checkHear(t, l, 0, api.ErrPiece, packetOf(29, middle, 3, 0, 4))
	checkHear(t, l, 0, api.ErrPiece, expected(9, some(30, 9), middle)[0][1:])
	checkHear(t, l, 0, api.ErrOther, changed(expected(7, some(29, 7), middle)[0], 10, 1))
	checkHear(t, l, 0, api.ErrFull, changed(expected(9, some(29, 7), middle)[0], 10, 1))
}
