package tests

import (
	"math"
	"math/big"
	"testing"

	"loop.example/g00453/impl"
)

const round = 1 << 32

// edges has the ends of the numbers, of words and of roots, with their neighbours, and some ordinary numbers, on both sides of 0.
func edges() []int {
	list := []int{math.MinInt, impl.Most, -impl.Most}
	for _, n := range []int{0, 2, 10, 1500, impl.One, 1000000, 2097151, 1000000000, 1 << 31, 3037000499, round, 123456789012345, 1 << 60, 1 << 62, impl.Most / 3, impl.Most / 2, impl.Most - 1} {
		for step := -1; step <= 1; step++ {
			list = append(list, n+step, -n-step)
		}
	}
	return list
}

// noise makes the same numbers of all lengths at each run.
func noise(count int) []int {
	list := make([]int, 0, count)
	x := uint64(88172645463325252)
	for i := range count {
		x ^= x << 13
		x ^= x >> 7
		x ^= x << 17
		list = append(list, int(x)>>(i%64))
	}
	return list
}

func large(n int) *big.Int { return big.NewInt(int64(n)) }

// held brings a number that may be of any size into -Most .. Most.
func held(x *big.Int) int {
	if x.Cmp(large(impl.Most)) > 0 {
		return impl.Most
	}
	if x.Cmp(large(-impl.Most)) < 0 {
		return -impl.Most
	}
	return int(x.Int64())
}

func checkSums(t *testing.T, a, b int) {
	t.Helper()
	x, y := large(held(large(a))), large(held(large(b)))
	if got, want := impl.SatAdd(a, b), held(new(big.Int).Add(x, y)); got != want {
		t.Errorf("SatAdd(%d, %d) = %d, want %d", a, b, got, want)
	}
	if got, want := impl.SatSub(a, b), held(new(big.Int).Sub(x, y)); got != want {
		t.Errorf("SatSub(%d, %d) = %d, want %d", a, b, got, want)
	}
	if got, want := impl.SatMul(a, b), held(new(big.Int).Mul(x, y)); got != want {
		t.Errorf("SatMul(%d, %d) = %d, want %d", a, b, got, want)
	}
}

func TestConstants(t *testing.T) {
	if impl.Most != math.MaxInt || impl.One != 1<<16 {
		t.Error(impl.Most, impl.One)
	}
}

// Promise 1.
func TestSumsAndProductsAreWhatTheyAre(t *testing.T) {
	for _, a := range edges() {
		for _, b := range edges() {
			checkSums(t, a, b)
		}
	}
	list := noise(20000)
	for i := 1; i < len(list); i++ {
		checkSums(t, list[i-1], list[i])
	}
}

// Promise 1, at the ends: told by hand, not reckoned.
func TestSumsAtTheEnds(t *testing.T) {
	const most, least = impl.Most, math.MinInt
	for _, c := range []struct {
		name      string
		got, want int
	}{
		{"Most + 0", impl.SatAdd(most, 0), most},
		{"Most - 1 + 1", impl.SatAdd(most-1, 1), most},
		{"Most + 1", impl.SatAdd(most, 1), most},
		{"Most + Most", impl.SatAdd(most, most), most},
		{"-Most + 0", impl.SatAdd(-most, 0), -most},
		{"-Most - 1 as a sum", impl.SatAdd(-most, -1), -most},
		{"least + 0", impl.SatAdd(least, 0), -most},
		{"0 + least", impl.SatAdd(0, least), -most},
		{"least + 1", impl.SatAdd(least, 1), -most + 1},
		{"least + Most", impl.SatAdd(least, most), 0},
		{"least + least", impl.SatAdd(least, least), -most},
		{"0 - least", impl.SatSub(0, least), most},
		{"-1 - least", impl.SatSub(-1, least), most - 1},
		{"least - least", impl.SatSub(least, least), 0},
		{"least - 0", impl.SatSub(least, 0), -most},
		{"Most - least", impl.SatSub(most, least), most},
		{"-Most - Most", impl.SatSub(-most, most), -most},
		{"Most - -1", impl.SatSub(most, -1), most},
		{"least times 1", impl.SatMul(least, 1), -most},
		{"least times -1", impl.SatMul(least, -1), most},
		{"least times 0", impl.SatMul(least, 0), 0},
		{"least times least", impl.SatMul(least, least), most},
		{"Most times -1", impl.SatMul(most, -1), -most},
		{"Most times Most", impl.SatMul(most, most), most},
		{"2^32 times 2^31", impl.SatMul(1<<32, 1<<31), most},
		{"2^32 times -2^31", impl.SatMul(1<<32, -1<<31), -most},
		{"2^32 times 2^32", impl.SatMul(1<<32, 1<<32), most},
		{"2^32 times 2^31 - 1", impl.SatMul(1<<32, 1<<31-1), 9223372032559808512},
	} {
		if c.got != c.want {
			t.Errorf("%s: %d, want %d", c.name, c.got, c.want)
		}
	}
}

// quotient is what MulDiv is to answer, reckoned with numbers of any size.
func quotient(a, b, c int) (int, bool) {
	if a < 0 || b < 0 || c < 1 {
		return 0, false
	}
	q := new(big.Int).Mul(large(a), large(b))
	q.Quo(q, large(c))
	if q.Cmp(large(impl.Most)) > 0 {
		return 0, false
	}
	return int(q.Int64()), true
}

func checkMulDiv(t *testing.T, a, b, c int) {
	t.Helper()
	got, ok := impl.MulDiv(a, b, c)
	want, fine := quotient(a, b, c)
	if got != want || ok != fine {
		t.Errorf("MulDiv(%d, %d, %d) = %d, %v, want %d, %v", a, b, c, got, ok, want, fine)
	}
}

// Promise 1.
func TestMulDivIsTheQuotient(t *testing.T) {
	for _, a := range edges() {
		for _, b := range edges() {
			for _, c := range edges() {
				checkMulDiv(t, a, b, c)
			}
		}
	}
	list := noise(20000)
	for i := 2; i < len(list); i++ {
		checkMulDiv(t, list[i-2]&math.MaxInt, list[i-1]&math.MaxInt, list[i]&math.MaxInt)
	}
}

// Promise 1.
func TestProductDividedByOneIsTheOther(t *testing.T) {
	list := append(edges(), noise(300)...)
	for _, a := range list {
		for _, b := range list {
			if a < 0 || b < 1 {
				continue
			}
			if q, ok := impl.MulDiv(a, b, b); !ok || q != a {
				t.Errorf("MulDiv(%d, %d, %d) = %d, %v", a, b, b, q, ok)
			}
			if q, ok := impl.MulDiv(b, a, b); !ok || q != a {
				t.Errorf("MulDiv(%d, %d, %d) = %d, %v", b, a, b, q, ok)
			}
		}
	}
}

type ratioCase struct {
	a, b, c, want int
	ok            bool
}

// Promise 1, at the ends: told by hand, not reckoned.
func TestMulDivAtTheEnds(t *testing.T) {
	const most = impl.Most
	for _, c := range []ratioCase{
		{7, 3, 2, 10, true},
		{0, most, 1, 0, true},
		{most, 0, most, 0, true},
		{1, most - 1, most, 0, true},
		{most, most, most, most, true},
		{most, 1, 1, most, true},
		{most, 1000000000, 1000000000, most, true},
		// the product is far above Most, the quotient is not
		{1 << 62, 5, 4, 5764607523034234880, true},
		{most, most - 1, most, most - 1, true},
		// just at Most, even and with something left over
		{most, 3, 3, most, true},
		{round - 1, round + 1, 2, most, true},
		// just above Most, even and with something left over
		{1 << 62, 2, 1, 0, false},
		{round, round, 2, 0, false},
		{most, most - 1, most - 2, 0, false},
		// the quotient has 64 bits, and more than these
		{most, 2, 1, 0, false},
		{most, 4, 1, 0, false},
		{most, most, 1, 0, false},
		{most, most, most - 1, 0, false},
		{1 << 62, 4, 1, 0, false},
		// wrong ones
		{-1, 1, 1, 0, false},
		{1, -1, 1, 0, false},
		{-1, -1, 1, 0, false},
		{0, -1, 1, 0, false},
		{6, 2, 0, 0, false},
		{0, 0, 0, 0, false},
		{6, 2, -3, 0, false},
		{math.MinInt, 1, 1, 0, false},
		{1, math.MinInt, 1, 0, false},
		{1, 1, math.MinInt, 0, false},
	} {
		if got, ok := impl.MulDiv(c.a, c.b, c.c); got != c.want || ok != c.ok {
			t.Errorf("MulDiv(%d, %d, %d) = %d, %v, want %d, %v", c.a, c.b, c.c, got, ok, c.want, c.ok)
		}
	}
}

// above asks, with numbers of any size, whether x to this power, times factor, is above n.
func above(x int, power int64, factor, n int) bool {
	p := new(big.Int).Exp(large(x), big.NewInt(power), nil)
	return p.Mul(p, large(factor)).Cmp(large(n)) > 0
}

func checkRoots(t *testing.T, n int) {
	t.Helper()
	two, three := impl.Root2(n), impl.Root3(n)
	if n < 0 {
		if two != 0 || three != 0 {
			t.Errorf("roots of %d: %d, %d", n, two, three)
		}
		return
	}
	if two < 0 || above(two, 2, 1, n) || !above(two+1, 2, 1, n) {
		t.Errorf("Root2(%d) = %d", n, two)
	}
	if three < 0 || above(three, 3, 1, n) || !above(three+1, 3, 1, n) {
		t.Errorf("Root3(%d) = %d", n, three)
	}
}

// Promise 1.
func TestRootsAreTheGreatest(t *testing.T) {
	for n := -3; n < 3000; n++ {
		checkRoots(t, n)
	}
	for _, n := range append(edges(), noise(5000)...) {
		checkRoots(t, n)
	}
	for _, x := range []int{2, 3, 1000, 65535, 65536, 1000000, 2097150, 2097151} {
		for step := -1; step <= 1; step++ {
			checkRoots(t, x*x+step)
			checkRoots(t, x*x*x+step)
		}
	}
	for _, x := range []int{2097152, 1 << 31, 3037000498, 3037000499} {
		for step := -1; step <= 1; step++ {
			checkRoots(t, x*x+step)
		}
	}
}

// Promise 1, at the ends: told by hand, not reckoned.
func TestRootsAtTheEnds(t *testing.T) {
	for _, c := range []struct{ n, two, three int }{
		{math.MinInt, 0, 0},
		{-impl.Most, 0, 0},
		{-1, 0, 0},
		{0, 0, 0},
		{1, 1, 1},
		{3, 1, 1},
		{4, 2, 1},
		{7, 2, 1},
		{8, 2, 2},
		{9, 3, 2},
		{9223372030926249000, 3037000498, 2097151},
		{9223372030926249001, 3037000499, 2097151},
		{9223358842721533950, 3036998327, 2097150},
		{9223358842721533951, 3036998327, 2097151},
		{impl.Most, 3037000499, 2097151},
	} {
		if two, three := impl.Root2(c.n), impl.Root3(c.n); two != c.two || three != c.three {
			t.Errorf("roots of %d: %d, %d, want %d, %d", c.n, two, three, c.two, c.three)
		}
	}
}

// Promise 1.
func TestInvRootIsTheGreatest(t *testing.T) {
	list := append(edges(), noise(3000)...)
	for n := -3; n < 3000; n++ {
		list = append(list, n)
	}
	for x := 1; x < 200; x++ { // where the answer changes
		list = append(list, round/(x*x), round/(x*x)+1)
	}
	for _, n := range list {
		got := impl.InvRoot(n)
		if n < 1 || n > round {
			if got != 0 {
				t.Errorf("InvRoot(%d) = %d, want 0", n, got)
			}
		} else if got < 0 || above(got, 2, n, round) || !above(got+1, 2, n, round) {
			t.Errorf("InvRoot(%d) = %d", n, got)
		}
	}
}

// Promise 1, at the ends: told by hand, not reckoned.
func TestInvRootAtTheEnds(t *testing.T) {
	for _, c := range []struct{ n, want int }{
		{1, 65536},
		{2, 46340},
		{3, 37837},
		{4, 32768},
		{1 << 30, 2},
		{1<<30 + 1, 1},
		{round - 1, 1},
		{round, 1},
		{round + 1, 0},
		{impl.Most, 0},
		{0, 0},
		{-1, 0},
		{-round, 0},
		{math.MinInt, 0},
	} {
		if got := impl.InvRoot(c.n); got != c.want {
			t.Errorf("InvRoot(%d) = %d, want %d", c.n, got, c.want)
		}
	}
}
