package fascine_test

import (
	"math"
	"testing"

	"fascine/api"
	"fascine/fascine"
)

// outside are numbers that are none of the field, the nearest first.
var outside = []int{-1, 256, 257, 285, 511, 512, -255, -256, 1 << 32, 1<<32 + 1, math.MaxInt, math.MinInt}

// product reckons otherwise than the program: the whole product first, then what is above 255 is folded from the top.
func product(a, b int) int {
	whole := 0
	for k := range 8 {
		whole ^= (b >> k & 1) * a << k
	}
	for k := 14; k >= 8; k-- {
		whole ^= (whole >> k & 1) * 285 << (k - 8)
	}
	return whole
}

// inverses by their numbers, each looked for among all products, once for all tests.
var inverses = findInverses()

func findInverses() (all [256]int) {
	for a := range all {
		for b := range 256 {
			if product(a, b) == 1 {
				all[a] = b
			}
		}
	}
	return all
}

func inverse(a int) int { return inverses[a] }

func TestP3Examples(t *testing.T) {
	for _, c := range [][3]int{
		{2, 128, 29}, {3, 7, 9}, {0, 9, 0}, {9, 0, 0}, {0, 0, 0}, {1, 1, 1}, {255, 1, 255}, {1, 255, 255},
		{255, 255, 226}, {0, 255, 0}, {255, 0, 0}, {255, 253, 1}, {97, 253, 154}, {98, 253, 128},
	} {
		if got, e := fascine.Mul(c[0], c[1]); got != c[2] || e != api.OK {
			t.Errorf("P3: Mul(%d, %d) = %d, %d, want %d", c[0], c[1], got, e, c[2])
		}
	}
	for _, c := range [][2]int{{2, 142}, {1, 1}, {255, 253}, {253, 255}, {142, 2}} {
		if got, e := fascine.Inverse(c[0]); got != c[1] || e != api.OK {
			t.Errorf("P3: Inverse(%d) = %d, %d, want %d", c[0], got, e, c[1])
		}
	}
}

func TestP3AllProducts(t *testing.T) {
	for a := range 256 {
		for b := range 256 {
			if got, e := fascine.Mul(a, b); got != product(a, b) || e != api.OK {
				t.Fatalf("P3: Mul(%d, %d) = %d, %d, want %d", a, b, got, e, product(a, b))
			}
		}
	}
}

func TestP3AllInverses(t *testing.T) {
	for a := 1; a < 256; a++ {
		if got, e := fascine.Inverse(a); got != inverse(a) || e != api.OK {
			t.Errorf("P3: Inverse(%d) = %d, %d, want %d", a, got, e, inverse(a))
		}
	}
}

func TestP3Wrong(t *testing.T) {
	for _, n := range outside {
		for _, other := range []int{0, 1, 255, n, -1, 256} {
			for _, c := range [][2]int{{n, other}, {other, n}} {
				if got, e := fascine.Mul(c[0], c[1]); got != 0 || e != api.ErrArg {
					t.Errorf("P3: Mul(%d, %d) = %d, %d", c[0], c[1], got, e)
				}
			}
		}
	}
	for _, n := range append([]int{0}, outside...) {
		if got, e := fascine.Inverse(n); got != 0 || e != api.ErrArg {
			t.Errorf("P3: Inverse(%d) = %d, %d", n, got, e)
		}
	}
}
