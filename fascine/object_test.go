package fascine_test

import (
	"bytes"
	"math/rand/v2"
	"slices"
	"testing"

	"fascine/api"
	"fascine/fascine"
)

// checkPicked: of all packets of an object those alone that are picked are heard, and the object is asked for.
func checkPicked(t *testing.T, object []byte, p api.Plan, picked func(block, piece, count int) bool, e api.Errno) {
	t.Helper()
	l := fascine.New()
	blocks := dealt(len(object), p)
	for _, packet := range expected(1, object, p) {
		if picked(int(packet[8]), int(packet[9]), blocks[packet[8]]) {
			checkHear(t, l, 1, api.OK, packet)
		}
	}
	if e != api.OK {
		object = nil
	}
	if got, f := l.Object(1); !bytes.Equal(got, object) || f != e {
		t.Errorf("P9: %d bytes, %+v: %v, %d, want %v, %d", len(object), p, got, f, object, e)
	}
}

func TestP9OwnPiecesAndSpareOnes(t *testing.T) {
	for _, p := range []api.Plan{
		{Size: 1, Most: 20, Spare: 20}, {Size: 16, Most: 20, Spare: 20}, {Size: 4, Most: 3, Spare: 3},
		{Size: 16, Most: 1, Spare: 20}, {Size: 3, Most: 19, Spare: 19}, {Size: 5, Most: 2, Spare: 20},
	} {
		for _, length := range []int{0, 1, 2, 16, 17, 39, 40, 250, 1999, 2000} {
			object := some(length, p.Size)
			if len(dealt(length, p)) > 256 {
				continue
			}
			checkPicked(t, object, p, func(_, n, count int) bool { return n < count }, api.OK)
			checkPicked(t, object, p, func(_, n, count int) bool { return count <= n && n < 2*count }, api.OK)
			checkPicked(t, object, p, func(_, n, count int) bool { return n >= p.Spare }, api.OK)
			checkPicked(t, object, p, func(_, n, count int) bool { return 1 <= n && n <= count }, api.OK)
			checkPicked(t, object, p, func(z, n, count int) bool { return n%(2*count) >= z%count && n%(2*count) < z%count+count }, api.OK)
			checkPicked(t, object, p, func(_, n, count int) bool { return true }, api.OK)
			checkPicked(t, object, p, func(_, n, count int) bool { return n >= count-1 }, api.OK)
		}
	}
}

// One block has one piece too few: the first, the last, one between; the others have all.
func TestP9OneTooFew(t *testing.T) {
	for _, p := range []api.Plan{middle, {Size: 1, Most: 1}, {Size: 1, Most: 1, Spare: 3}, {Size: 2, Most: 20, Spare: 20}, {Size: 16, Most: 20}} {
		for _, length := range []int{0, 1, 30, 256} {
			blocks := dealt(length, p)
			for _, few := range []int{0, len(blocks) / 2, len(blocks) - 1} {
				if length == 0 && few > 0 || blocks[few] == 1 && len(blocks) == 1 {
					continue
				}
				checkPicked(t, some(length, 5), p, func(z, n, count int) bool { return z != few || n < count-1 }, api.ErrMore)
				checkPicked(t, some(length, 5), p, func(z, n, count int) bool { return z != few || n > p.Spare }, api.ErrMore)
			}
		}
	}
}

// Many blocks with too few pieces, beside many that could be put together.
func TestP9ManyTooFew(t *testing.T) {
	object, p := some(256, 9), api.Plan{Size: 1, Most: 1, Spare: 2}
	for _, every := range []int{1, 2, 3, 100} {
		checkPicked(t, object, p, func(z, n, _ int) bool { return z == 7 || z%every != 0 && n == 2 }, api.ErrMore)
	}
	checkPicked(t, object, p, func(z, n, _ int) bool { return n == z%3 }, api.OK)
	wide := api.Plan{Size: 1, Most: 20, Spare: 20}
	checkPicked(t, some(2000, 3), wide, func(z, n, count int) bool { return n >= 20 && (z != 63 || n > 20) }, api.ErrMore)
	checkPicked(t, some(2000, 3), wide, func(z, n, count int) bool { return n >= 20 }, api.OK)
}

func TestP9NoBytes(t *testing.T) {
	for _, p := range plans {
		for n := range 1 + p.Spare {
			l := fascine.New()
			checkHear(t, l, 1, api.OK, expected(2, nil, p)[n])
			checkLook(t, l, 2, api.Look{Plan: p, Heard: 1, Blocks: 1, Whole: 1}, api.OK)
			checkObject(t, l, 2, nil, api.OK)
		}
	}
	l := fascine.New()
	checkHear(t, l, 1, api.OK, []byte{70, 0, 2, 0, 0, 2, 3, 4, 0, 4, 7, 8})
	checkObject(t, l, 2, nil, api.OK)
}

// Each choice of pieces of two blocks, which are cut into 3 and 2.
func TestP10EachChoice(t *testing.T) {
	object, p := some(10, 1), api.Plan{Size: 2, Most: 3, Spare: 3}
	packets := expected(5, object, p)
	for choice := range 1 << 11 {
		l := fascine.New()
		var counts [2]int
		for i, packet := range packets {
			if choice>>i&1 == 1 {
				checkHear(t, l, 1, api.OK, packet)
				counts[packet[8]]++
			}
		}
		switch {
		case choice == 0:
			checkObject(t, l, 5, nil, api.ErrNone)
		case counts[0] >= 3 && counts[1] >= 2:
			checkObject(t, l, 5, object, api.OK)
		default:
			checkObject(t, l, 5, nil, api.ErrMore)
		}
	}
}

// The packets of several objects in turns, in any order, some of them again; asked for after each.
func TestP10InTurns(t *testing.T) {
	random := rand.New(rand.NewPCG(1, 2))
	for range 30 {
		objects := map[int][]byte{}
		var packets [][]byte
		for range 1 + random.IntN(8) {
			id, p := random.IntN(65536), plans[random.IntN(len(plans))]
			objects[id] = some(random.IntN(100), random.IntN(100))
			packets = append(packets, expected(id, objects[id], p)...)
		}
		random.Shuffle(len(packets), func(i, k int) { packets[i], packets[k] = packets[k], packets[i] })
		checkTurns(t, objects, packets, random)
	}
}

func checkTurns(t *testing.T, objects map[int][]byte, packets [][]byte, random *rand.Rand) {
	t.Helper()
	l := fascine.New()
	heard := map[int]map[[2]byte]int{}
	for i, packet := range packets {
		checkHear(t, l, 1, api.OK, packet, packets[random.IntN(i+1)], packet)
		id := int(packet[1])*256 + int(packet[2])
		if heard[id] == nil {
			heard[id] = map[[2]byte]int{}
		}
		heard[id][[2]byte(packet[8:10])]++
		want, e := objects[id], api.OK
		if !enough(heard[id], len(want), api.Plan{Size: int(packet[5]), Most: int(packet[6]), Spare: int(packet[7])}) {
			want, e = nil, api.ErrMore
		}
		checkObject(t, l, id, want, e)
	}
	for id, object := range objects {
		checkObject(t, l, id, object, api.OK)
	}
}

// enough: of each block as many of these pieces (block and number) as it was cut into.
func enough(pieces map[[2]byte]int, length int, p api.Plan) bool {
	counts := dealt(length, p)
	for place := range pieces {
		counts[place[0]]--
	}
	return slices.Max(counts) <= 0
}

// checkLeast: the object, cut again, has the pieces that were heard, of each block those with the least numbers. (No
// other object has: any pieces, as many as a block was cut into, are enough.)
func checkLeast(t *testing.T, l *fascine.Listener, length int, p api.Plan, heard [][]byte) {
	t.Helper()
	object, e := l.Object(1)
	if e != api.OK || len(object) != length {
		t.Fatalf("P9: %d bytes, %d, want %d bytes", len(object), e, length)
	}
	rest := dealt(length, p)
	for _, want := range expected(1, object, p) {
		for _, packet := range heard {
			if bytes.Equal(packet[:10], want[:10]) && rest[packet[8]] > 0 {
				rest[packet[8]]--
				if !bytes.Equal(packet, want) {
					t.Fatalf("P9: %+v: of %v comes %v, whose packet is %v", p, heard, object, want)
				}
			}
		}
	}
	if slices.Max(rest) > 0 {
		t.Fatalf("P9: too few pieces were heard: %v", rest)
	}
}

// Pieces that come from different objects: those with the least numbers count.
func TestP9LeastNumbers(t *testing.T) {
	random := rand.New(rand.NewPCG(3, 4))
	for range 100 {
		p := api.Plan{Size: 1 + random.IntN(16), Most: 1 + random.IntN(20), Spare: random.IntN(21)}
		length := p.Size * (1 + random.IntN(40))
		packets := expected(1, some(length, 1), p)
		for _, packet := range packets {
			for at := 10; at < len(packet); at++ {
				packet[at] = byte(random.Uint32())
			}
		}
		random.Shuffle(len(packets), func(i, k int) { packets[i], packets[k] = packets[k], packets[i] })
		l := fascine.New()
		for i, packet := range packets {
			checkHear(t, l, 1, api.OK, packet)
			if look, _ := l.Look(1); look.Whole == look.Blocks {
				checkLeast(t, l, length, p, packets[:i+1])
			}
		}
	}
}

func TestP9LeastNumbersExample(t *testing.T) {
	p := api.Plan{Size: 1, Most: 2, Spare: 3}
	a, b := expected(1, []byte("ab"), p), expected(1, []byte("cd"), p)
	l := fascine.New()
	checkHear(t, l, 2, api.OK, b[4], b[3])
	checkObject(t, l, 1, []byte("cd"), api.OK)
	checkHear(t, l, 1, api.OK, a[2])
	checkLeast(t, l, 2, p, [][]byte{b[3], a[2]})
	checkHear(t, l, 1, api.OK, a[1])
	checkObject(t, l, 1, []byte("ab"), api.OK)
	checkHear(t, l, 1, api.OK, b[0])
	checkObject(t, l, 1, []byte("cb"), api.OK)
}

// Bytes that fill up the last piece and are not 0 are no part of the object; the spare pieces were made with them.
func TestP9Filling(t *testing.T) {
	p := api.Plan{Size: 4, Most: 3, Spare: 3}
	whole := some(12, 8)
	for length := 9; length <= 12; length++ {
		packets := expected(1, whole, p)
		for _, packet := range packets {
			packet[4] = byte(length)
		}
		for first := range 4 {
			l := fascine.New()
			checkHear(t, l, 3, api.OK, packets[first:first+3]...)
			checkObject(t, l, 1, whole[:length], api.OK)
		}
	}
}

// A piece is put in as it came: with other filling than the spare piece was made with, another byte comes out where the
// filling stands.
func TestP9OtherFilling(t *testing.T) {
	p := api.Plan{Size: 2, Most: 2, Spare: 1}
	packets := expected(1, []byte{1, 2, 3}, p)
	l := fascine.New()
	checkHear(t, l, 2, api.OK, changed(packets[1], 11, 9), packets[2])
	// The spare byte is 2 times the inverse of 255, which is 253; what 9 times the inverse of 254 adds is taken away.
	want := product(product(2, 253)^product(9, inverse(254)), 255)
	checkObject(t, l, 1, []byte{1, byte(want), 3}, api.OK)
}
