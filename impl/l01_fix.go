package impl

import "math/bits"

const Most = 9223372036854775807
const One = 65536

// iota is the power: what is at most Most has 63 bits, so its root of that
// power has no more than 63 divided by the power, cut upwards.
const (
	_ = iota
	_
	squareEnd = 1 << ((62 + iota) / iota)
	cubeEnd
)

const round = 1 << 32
const second = 1000000000

// The least int has no opposite, so no number below -Most is reckoned with.
func held(a int) int {
	return max(a, -Most)
}

func SatAdd(a int, b int) int {
	a, b = held(a), held(b)
	if b > 0 && a > Most-b {
		return Most
	}
	if b < 0 && a < -Most-b {
		return -Most
	}
	return a + b
}

func SatSub(a int, b int) int {
	return SatAdd(a, -held(b))
}

func magnitude(a int) uint64 {
	a = held(a)
	return uint64(max(a, -a))
}

func SatMul(a int, b int) int {
	high, low := bits.Mul64(magnitude(a), magnitude(b))
	product := Most
	if high == 0 && low <= Most {
		product = int(low)
	}
	if (a < 0) != (b < 0) {
		return -product
	}
	return product
}

// ratio gives what is left over too, because cutting upwards asks for it.
func ratio(a int, b int, c int) (quotient int, rest int, ok bool) {
	if a < 0 || b < 0 || c < 1 {
		return 0, 0, false
	}
	high, low := bits.Mul64(uint64(a), uint64(b))
	if high >= uint64(c) { // Div64 would panic: the quotient has more than 64 bits
		return 0, 0, false
	}
	q, r := bits.Div64(high, low, uint64(c))
	if q > Most {
		return 0, 0, false
	}
	return int(q), int(r), true
}

func MulDiv(a int, b int, c int) (int, bool) {
	quotient, _, ok := ratio(a, b, c)
	return quotient, ok
}

// greatest halves its way to the last number below end that fits, so fits must
// hold at 0 and, once it does not, at none of the greater ones.
func greatest[T int | uint64](end T, fits func(T) bool) T {
	low := T(0)
	for end-low > 1 {
		middle := low + (end-low)/2
		if fits(middle) {
			low = middle
		} else {
			end = middle
		}
	}
	return low
}

// Squares of numbers just below squareEnd need all 64 bits.
func Root2(n int) int {
	limit := uint64(max(n, 0))
	return int(greatest(squareEnd, func(x uint64) bool { return x*x <= limit }))
}

func Root3(n int) int {
	limit := max(n, 0)
	return greatest(cubeEnd, func(x int) bool { return x*x*x <= limit })
}

// A square is whole, so it may be held against the quotient cut off, and the
// product, which might go over, is never made.
func InvRoot(n int) int {
	if n < 1 || n > round {
		return 0
	}
	return Root2(round / n)
}

func Before(a int, b int) bool {
	return Apart(a, b) > 0
}

// Going over in b - a does no harm: 2^64 is a multiple of a round.
func Apart(a int, b int) int {
	return int(int32(b - a))
}

// A quotient of Most is refused even where it comes out even: that keeps the
// step upwards from going over, by one rule for all.
func TimeOf(bytes int, rate int) (int, bool) {
	time, rest, ok := ratio(bytes, second, rate)
	if !ok || time == Most {
		return 0, false
	}
	if rest > 0 {
		time++
	}
	return time, true
}

func BytesOf(time int, rate int) (int, bool) {
	return MulDiv(time, rate, second)
}
