package fascine_test

import (
	"bytes"
	"runtime"
	"slices"
	"strings"
	"testing"
	"time"

	"fascine/api"
	"fascine/fascine"
)

func TestP1ListenerAtAllNumbers(t *testing.T) {
	for _, l := range []*fascine.Listener{fascine.New(), fullListener(t)} {
		ids := l.Ids()
		for _, id := range numbers {
			look, e := l.Look(id)
			object, f := l.Object(id)
			known := slices.Contains(ids, id)
			if known != (e == api.OK) || !known && (e != api.ErrNone || look != api.Look{} || f != api.ErrNone || len(object) != 0) {
				t.Errorf("P1: Look(%d) = %+v, %d, Object %v, %d", id, look, e, object, f)
			}
		}
		checkIds(t, l, ids...)
	}
}

func TestP1LongLists(t *testing.T) {
	l := fascine.New()
	many := slices.Repeat([][]byte{[]byte(examplePacket)}, 100000)
	checkHear(t, l, 1, api.OK, many...)
	many[99999] = nil
	checkHear(t, l, 0, api.ErrPiece, many...)
	if got, line, e := l.Read(strings.Repeat(exampleText+"\n", 20000) + "A"); got != 0 || line != 20000 || e != api.ErrText {
		t.Errorf("P1: Read of a long text: %d, %d, %d", got, line, e)
	}
	for _, part := range []string{"A", "\u03bc", " ", "\n", " \n", "0", "\xff", "\xce", "AA\n"} {
		for _, count := range []int{1, 4, 1001, 300000} {
			got, line, e := l.Read(strings.Repeat(part, count))
			if blank := strings.Trim(part, " \n") == ""; got != 0 || line != 0 || blank != (e == api.OK) {
				t.Errorf("P1: Read(%d times %q) = %d, %d, %d", count, part, got, line, e)
			}
		}
	}
	checkHeard(t, l, map[int]int{5: 1})
}

// With an error nothing is changed but what was heard ahead of it.
func TestP1ErrorsChangeNothing(t *testing.T) {
	l, same := fullListener(t), fullListener(t)
	for _, c := range wrongLines {
		checkRead(t, l, c.text, 0, 0, c.e)
		if packet, e := fascine.Packet(c.text); e == api.OK {
			checkHear(t, l, 0, c.e, packet)
		}
		checkObject(t, l, 3, nil, api.ErrMore)
		checkObject(t, l, 99, nil, api.ErrNone)
		checkLook(t, l, 99, api.Look{}, api.ErrNone)
		checkSame(t, same, l)
	}
}

// Asking changes nothing.
func TestP2AskingChangesNothing(t *testing.T) {
	l := fascine.New()
	packets := expected(1, some(30, 1), middle)
	for i, packet := range packets {
		for range 3 {
			l.Object(1)
			l.Look(1)
			l.Ids()
			l.Object(2)
		}
		checkHear(t, l, 1, api.OK, packet)
		checkHear(t, l, 0, api.OK, packets[:i+1]...)
	}
	checkIds(t, l, 1)
}

func TestP2ListenersShareNothing(t *testing.T) {
	one, two := fascine.New(), fascine.New()
	for id := range 8 {
		checkHear(t, one, 1, api.OK, expected(id, some(2, id), small)[0])
		checkIds(t, two)
	}
	checkHear(t, two, 2, api.OK, expected(9, some(2, 9), small)...)
	checkHear(t, two, 1, api.OK, expected(1, some(30, 9), middle)[0])
	checkIds(t, one, 0, 1, 2, 3, 4, 5, 6, 7)
	checkIds(t, two, 1, 9)
	checkObject(t, one, 1, some(2, 1), api.OK)
	checkObject(t, two, 1, nil, api.ErrMore)
	checkIds(t, fascine.New())
}

// listInOneMemory: packets that all stand in one memory, with something behind each, wrong ones among them; and room
// behind the list.
func listInOneMemory() ([][]byte, []byte) {
	const room = 60
	packets := append(expected(3, some(30, 3), middle), expected(4, some(5, 4), small)...)
	packets = append(packets, nil, expected(3, some(29, 3), middle)[0])
	memory := some(room*len(packets), 1)
	list := make([][]byte, len(packets), len(packets)+4)
	for i, packet := range packets {
		place := memory[room*i:]
		list[i] = place[:copy(place, packet)]
	}
	return list, memory
}

func TestP2HearDoesNotWrite(t *testing.T) {
	list, memory := listInOneMemory()
	memoryWas, listWas := bytes.Clone(memory), slices.Clone(list[:cap(list)])
	for count := range len(list) + 1 {
		l := fascine.New()
		l.Hear(list[:count]...)
		l.Hear(list...)
		l.Object(3)
		l.Object(4)
		if !bytes.Equal(memory, memoryWas) {
			t.Fatalf("P2: Hear, or Object, writes into the packets, or behind them")
		}
		for i, packet := range list[:cap(list)] {
			if len(packet) != len(listWas[i]) || len(packet) > 0 && &packet[0] != &listWas[i][0] {
				t.Fatalf("P2: Hear writes into the list, or behind it")
			}
		}
	}
}

func TestP2PacketsAreNotKept(t *testing.T) {
	for _, p := range []api.Plan{small, middle, {Size: 16, Most: 20, Spare: 20}, {Size: 1, Most: 1}} {
		list := expected(3, some(30, 3), p)
		l := fascine.New()
		checkHear(t, l, len(list), api.OK, list...)
		for i := range list {
			whole := list[i][:cap(list[i])]
			for at := range whole {
				whole[at] ^= 255
			}
			list[i] = nil
		}
		checkObject(t, l, 3, some(30, 3), api.OK)
		checkHear(t, l, 0, api.OK, expected(3, some(30, 3), p)...)
	}
}

// The answer is the caller's, spare room too; K of 1, where the object is one piece as it came, among them.
func TestP2ObjectIsNew(t *testing.T) {
	for _, p := range []api.Plan{{Size: 16, Most: 20, Spare: 20}, {Size: 4, Most: 3, Spare: 2}, {Size: 16, Most: 1, Spare: 1}} {
		for _, length := range []int{1, 5, 16, 30, 48} {
			for _, skip := range []int{0, 1} {
				l := fascine.New()
				packets := expected(3, some(length, 3), p)
				for _, packet := range packets {
					if int(packet[9]) >= skip {
						checkHear(t, l, 1, api.OK, packet)
					}
				}
				one, _ := l.Object(3)
				two, _ := l.Object(3)
				one = one[:cap(one)]
				for i := range one {
					one[i] ^= 255
				}
				oneWas := bytes.Clone(one)
				if !bytes.Equal(two, some(length, 3)) {
					t.Errorf("P2: two answers of Object share memory")
				}
				checkObject(t, l, 3, some(length, 3), api.OK)
				clear(two[:cap(two)])
				if !bytes.Equal(one, oneWas) {
					t.Errorf("P2: two answers of Object share memory")
				}
				checkHear(t, l, len(packets)-heardOf(l, 3), api.OK, packets...)
			}
		}
	}
}

func heardOf(l *fascine.Listener, id int) int {
	look, _ := l.Look(id)
	return look.Heard
}

func TestP2IdsAreNew(t *testing.T) {
	l := fascine.New()
	for id := range 5 {
		checkHear(t, l, 1, api.OK, expected(id, nil, small)[0])
	}
	one, two := l.Ids(), l.Ids()
	one = one[:cap(one)]
	for i := range one {
		one[i] = -1
	}
	if !slices.Equal(two, []int{0, 1, 2, 3, 4}) {
		t.Errorf("P2: two answers of Ids share memory")
	}
	checkIds(t, l, 0, 1, 2, 3, 4)
	checkHear(t, l, 1, api.OK, expected(0, nil, small)[1])
}

// However the goroutines run, the answer is the same, and none of them is left over.
func TestP2GoroutinesEnd(t *testing.T) {
	before := runtime.NumGoroutine()
	whole, short := fascine.New(), fascine.New()
	p := api.Plan{Size: 1, Most: 8, Spare: 8}
	object := some(2000, 1)
	for _, packet := range expected(1, object, p) {
		if packet[9] >= 8 {
			checkHear(t, whole, 1, api.OK, packet)
			if packet[9] != packet[8] {
				checkHear(t, short, 1, api.OK, packet)
			}
		}
	}
	for range 200 {
		checkObject(t, whole, 1, object, api.OK)
		checkObject(t, short, 1, nil, api.ErrMore)
	}
	// A goroutine that said that it is done may take a moment to be gone.
	for range 100 {
		if runtime.NumGoroutine() <= before {
			return
		}
		time.Sleep(10 * time.Millisecond)
	}
	t.Errorf("%d goroutines are left over", runtime.NumGoroutine()-before)
}
