package field

import "testing"

func TestHas(t *testing.T) {
	for n, want := range map[int]bool{-1: false, 0: true, 1: true, 255: true, 256: false} {
		if Has(n) != want {
			t.Errorf("Has(%d) = %t", n, !want)
		}
	}
}

func TestFieldLaws(t *testing.T) {
	for a := range 256 {
		if Mul(a, 1) != a || Mul(1, a) != a || Mul(a, 0) != 0 || Add(a, a) != 0 {
			t.Errorf("of %d: times 1 %d, times 0 %d, plus itself %d", a, Mul(a, 1), Mul(a, 0), Add(a, a))
		}
		for b := range 256 {
			if Mul(a, b) != Mul(b, a) || !Has(Mul(a, b)) {
				t.Fatalf("%d times %d is %d, the other way %d", a, b, Mul(a, b), Mul(b, a))
			}
			if c := a ^ 91; Mul(Add(a, c), b) != Add(Mul(a, b), Mul(c, b)) {
				t.Fatalf("(%d + %d) times %d", a, c, b)
			}
		}
	}
}

func TestInverse(t *testing.T) {
	for a := 1; a < 256; a++ {
		if Mul(a, Inverse(a)) != 1 {
			t.Errorf("Inverse(%d) = %d", a, Inverse(a))
		}
	}
}

func TestAddTimes(t *testing.T) {
	for times := range 256 {
		sum, row := []byte{0, 1, 200, 9}, []byte{5, 0, 255}
		AddTimes(sum, row, times)
		for at, want := range []int{Mul(5, times), 1, 200 ^ Mul(255, times), 9} {
			if int(sum[at]) != want {
				t.Errorf("%d times: place %d is %d, want %d", times, at, sum[at], want)
			}
		}
	}
	AddTimes(nil, nil, 1)
}
