package fascine_test

import (
	"bytes"
	"slices"
	"testing"

	"fascine/api"
	"fascine/fascine"
)

// numbers that a call may be given, the edges among them.
var numbers = slices.Concat(outside, noLengths, []int{0, 1, 2, 16, 17, 20, 21, 128, 255, 2000, 65535, 65536})

func TestP1EveryCallEnds(t *testing.T) {
	for _, a := range numbers {
		n, e := fascine.Inverse(a)
		checkZero(t, e, n == 0)
		for _, b := range numbers {
			n, e = fascine.Mul(a, b)
			checkZero(t, e, n == 0)
			for _, c := range numbers {
				p := api.Plan{Size: a, Most: b, Spare: c}
				for _, length := range []int{-1, 0, 33, 2000, 2001} {
					blocks, e := fascine.Blocks(length, p)
					checkZero(t, e, len(blocks) == 0)
				}
				packets, e := fascine.Packets(c, some(33, 1), p)
				checkZero(t, e, len(packets) == 0)
			}
		}
	}
}

// checkZero: these calls answer OK or ErrArg, and with ErrArg nothing else.
func checkZero(t *testing.T, e api.Errno, zero bool) {
	t.Helper()
	if e != api.OK && e != api.ErrArg || e == api.ErrArg && !zero {
		t.Fatalf("P1: the error is %d; nothing beside it: %t", e, zero)
	}
}

func TestP2ObjectIsNotWritten(t *testing.T) {
	for _, p := range plans {
		for _, length := range []int{0, 1, 37, 100} {
			whole := some(150, 4)
			was := bytes.Clone(whole)
			if _, e := fascine.Packets(1, whole[:length], p); e != api.OK || !bytes.Equal(whole, was) {
				t.Errorf("P2: Packets of %d bytes, %+v: %d; the object, or what is behind it, is written", length, p, e)
			}
		}
	}
}

func TestP2ObjectIsNotKept(t *testing.T) {
	p := api.Plan{Size: 4, Most: 3, Spare: 2}
	object := some(24, 5)
	want := expected(9, object, p)
	got, _ := fascine.Packets(9, object, p)
	clear(object)
	for i := range want {
		if len(got) != len(want) || !bytes.Equal(got[i], want[i]) {
			t.Fatalf("P2: packets change with the object")
		}
	}
	checkPackets(t, 9, some(24, 5), p, want)
}

func TestP2PacketsShareNothing(t *testing.T) {
	p := api.Plan{Size: 4, Most: 3, Spare: 2}
	object := some(60, 6)
	was := bytes.Clone(object)
	got, _ := fascine.Packets(9, object, p)
	again, _ := fascine.Packets(9, object, p)
	lists := slices.Concat(got, again)
	if len(lists) != 2*25 {
		t.Fatalf("P2: %d packets", len(lists))
	}
	for i, q := range lists {
		q = q[:cap(q)]
		for k := range q {
			q[k] = byte(i)
		}
	}
	for i, q := range lists {
		for _, b := range q[:cap(q)] {
			if b != byte(i) {
				t.Fatalf("P2: packet %d shares memory with packet %d", i, b)
			}
		}
	}
	if !bytes.Equal(object, was) {
		t.Errorf("P2: the packets share memory with the object")
	}
	checkPackets(t, 9, was, p, expected(9, was, p))
}

func TestP2OuterListIsNew(t *testing.T) {
	p := api.Plan{Size: 4, Most: 3, Spare: 2}
	got, _ := fascine.Packets(9, some(60, 6), p)
	again, _ := fascine.Packets(9, some(60, 6), p)
	clear(got[:cap(got)])
	for i, q := range expected(9, some(60, 6), p) {
		if !bytes.Equal(again[i], q) {
			t.Fatalf("P2: two answers of Packets share memory")
		}
	}
}

func TestP2BlocksAreNew(t *testing.T) {
	p := api.Plan{Size: 4, Most: 3, Spare: 2}
	one, _ := fascine.Blocks(30, p)
	two, _ := fascine.Blocks(30, p)
	one = one[:cap(one)]
	for i := range one {
		one[i] = -1
	}
	three, _ := fascine.Blocks(30, p)
	if want := []int{3, 3, 2}; !slices.Equal(two, want) || !slices.Equal(three, want) {
		t.Errorf("P2: answers of Blocks share memory: %v, %v", two, three)
	}
}
