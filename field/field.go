// Package field reckons with the numbers 0 to 255 as a field: sums are bit by bit, products as DOC.md tells.
package field

// Top is the greatest number of the field.
const Top = 255

// fold brings a doubled number that left the field back into it.
const fold = 285

// Has tells whether n is a number of the field.
func Has(n int) bool { return 0 <= n && n <= Top }

// Add is its own reverse: to take a number away is to add it again.
func Add(a, b int) int { return a ^ b }

// Mul works the product out bit by bit; both numbers are of the field.
func Mul(a, b int) int {
	product := 0
	for b > 0 {
		if b&1 == 1 {
			product = Add(product, a)
		}
		a = double(a)
		b >>= 1
	}
	return product
}

func double(a int) int {
	a <<= 1
	if a > Top {
		a = Add(a, fold)
	}
	return a
}

// Inverse of a number that is not 0. The 255th power of each such number is 1, so its 254th power is the inverse; and
// 254 is 2 + 4 + 8 + .. + 128, which seven squarings reach.
func Inverse(a int) int {
	inverse := 1
	for range 7 {
		a = Mul(a, a)
		inverse = Mul(inverse, a)
	}
	return inverse
}

// AddTimes adds that many times each byte of a row to the byte at the same place of the sum, which is as long.
func AddTimes(sum, row []byte, times int) {
	for at, b := range row {
		sum[at] = byte(Add(int(sum[at]), Mul(int(b), times)))
	}
}
