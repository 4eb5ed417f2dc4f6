package tests

import (
	"math"
	"math/big"
	"testing"

	"loop.example/g00453/impl"
)

// gap is b - a modulo 2^32, reckoned with numbers of any size.
func gap(a, b int) int {
	d := new(big.Int).Sub(large(b), large(a))
	return int(d.Mod(d, large(round)).Int64())
}

func checkRound(t *testing.T, a, b int) {
	t.Helper()
	d := gap(a, b)
	if got, want := impl.Before(a, b), d >= 1 && d <= 1<<31-1; got != want {
		t.Errorf("Before(%d, %d) = %v", a, b, got)
	}
	want := d
	if d >= 1<<31 {
		want = d - round
	}
	if got := impl.Apart(a, b); got != want {
		t.Errorf("Apart(%d, %d) = %d, want %d", a, b, got, want)
	}
}

// Promise 2.
func TestBeforeAndApart(t *testing.T) {
	for _, a := range edges() {
		for _, b := range edges() {
			checkRound(t, a, b)
		}
	}
	list := noise(20000)
	for i := 1; i < len(list); i++ {
		checkRound(t, list[i-1], list[i])
		checkRound(t, list[i-1]&(round-1), list[i]&(round-1))
	}
}

// Promise 2: less than half a round apart, one is before the other, and not the other way.
func TestOneIsBeforeTheOther(t *testing.T) {
	const half = 1 << 31
	for _, a := range []int{0, 1, 77, half - 1, half, half + 1, round - 2, round - 1} {
		for _, d := range []int{1, 2, 1500, 1 << 30, half - 2, half - 1} {
			b := (a + d) % round
			if !impl.Before(a, b) || impl.Before(b, a) || impl.Apart(a, b) != d || impl.Apart(b, a) != -d {
				t.Errorf("%d and %d", a, b)
			}
		}
		if impl.Before(a, a) || impl.Apart(a, a) != 0 {
			t.Errorf("%d and itself", a)
		}
		b := (a + half) % round
		if impl.Before(a, b) || impl.Before(b, a) || impl.Apart(a, b) != -half || impl.Apart(b, a) != -half {
			t.Errorf("%d and %d, half a round apart", a, b)
		}
	}
}

// Promise 2: numbers of more than 32 bits and below 0 count by what they are in a round.
func TestRoundsBeyondAWord(t *testing.T) {
	for _, c := range []struct{ a, b, want int }{
		{5 * round, 7*round + 9, 9},
		{-1, 0, 1},
		{-1, round, 1},
		{round, -1, -1},
		{0, 1 << 31, -1 << 31},
		{0, -1 << 31, -1 << 31},
		{math.MinInt, impl.Most, -1},
		{impl.Most, math.MinInt, 1},
		{math.MinInt, 0, 0},
		{-impl.Most, impl.Most, -2},
	} {
		if got := impl.Apart(c.a, c.b); got != c.want {
			t.Errorf("Apart(%d, %d) = %d, want %d", c.a, c.b, got, c.want)
		}
		if got := impl.Before(c.a, c.b); got != (c.want > 0) {
			t.Errorf("Before(%d, %d) = %v", c.a, c.b, got)
		}
	}
}

const second = 1000000000

// duration is what TimeOf is to answer, reckoned with numbers of any size.
func duration(bytes, rate int) (int, bool) {
	whole, ok := quotient(bytes, second, rate)
	if !ok || whole == impl.Most {
		return 0, false
	}
	back := new(big.Int).Mul(large(whole), large(rate))
	if back.Cmp(new(big.Int).Mul(large(bytes), large(second))) < 0 {
		whole++
	}
	return whole, true
}

func checkTimes(t *testing.T, bytes, rate int) {
	t.Helper()
	got, ok := impl.TimeOf(bytes, rate)
	if want, fine := duration(bytes, rate); got != want || ok != fine {
		t.Errorf("TimeOf(%d, %d) = %d, %v, want %d, %v", bytes, rate, got, ok, want, fine)
	}
	got, ok = impl.BytesOf(bytes, rate)
	if want, fine := quotient(bytes, rate, second); got != want || ok != fine {
		t.Errorf("BytesOf(%d, %d) = %d, %v, want %d, %v", bytes, rate, got, ok, want, fine)
	}
}

// Promise 2.
func TestTimesAndBytes(t *testing.T) {
	for _, bytes := range edges() {
		for _, rate := range edges() {
			checkTimes(t, bytes, rate)
		}
	}
	list := noise(20000)
	for i := 1; i < len(list); i++ {
		checkTimes(t, list[i-1], list[i])
		checkTimes(t, list[i-1]&math.MaxInt, list[i]&math.MaxInt)
	}
}

// Promise 2: in the time that bytes take there is time for them, in less there is not.
func TestThereIsTimeForThem(t *testing.T) {
	const top = 1 << 60
	list := append([]int{1, 7, 1500, top - 1, top}, edges()...)
	seen := 0
	for _, bytes := range append(list, noise(300)...) {
		for _, rate := range append([]int{1, 3, 125000, 999999999, 1000000000, 1000000001, 1000000000000, impl.Most}, noise(300)...) {
			if bytes < 0 || bytes > top || rate < 1 {
				continue
			}
			time, ok := impl.TimeOf(bytes, rate)
			if !ok {
				continue
			}
			seen++
			if b, fine := impl.BytesOf(time, rate); !fine || b < bytes {
				t.Errorf("%d bytes with %d take %d, which is time for %d, %v", bytes, rate, time, b, fine)
			}
			if b, _ := impl.BytesOf(time-1, rate); time > 0 && b >= bytes {
				t.Errorf("%d bytes with %d take %d, but in one less is time for %d", bytes, rate, time, b)
			}
		}
	}
	if seen < 1000 {
		t.Errorf("only %d times were there", seen)
	}
}

// Promise 2, at the ends: told by hand, not reckoned.
func TestTimesAtTheEnds(t *testing.T) {
	const most, top = impl.Most, 1 << 60
	for _, c := range []struct {
		bytes, rate, want int
		ok                bool
	}{
		{1500, 125000, 12000000, true},
		{1, 3, 333333334, true},
		{2, 3, 666666667, true},
		{3, 3, 1000000000, true},
		{1, most, 1, true},
		{0, 1, 0, true},
		{0, most, 0, true},
		{top, 1000000000, top, true},
		{top, 1000000000000, 1152921504606847, true},
		{top, most, 125000001, true},
		{top, 1, 0, false},
		// cut off just below Most, even and with something left over
		{most - 1, 1000000000, most - 1, true},
		{9223372027631403770, 999999999, most, true},
		// cut off just Most, even and with something left over
		{most, 1000000000, 0, false},
		{9223372027631403771, 999999999, 0, false},
		// far above
		{most, 1, 0, false},
		{most, 500000000, 0, false},
		{9223372036, 1, 9223372036000000000, true},
		{9223372037, 1, 0, false},
		// wrong ones
		{-1, 1000, 0, false},
		{math.MinInt, 1000, 0, false},
		{1000, 0, 0, false},
		{0, 0, 0, false},
		{1000, -1, 0, false},
		{1000, math.MinInt, 0, false},
		{-1, -1, 0, false},
	} {
		if got, ok := impl.TimeOf(c.bytes, c.rate); got != c.want || ok != c.ok {
			t.Errorf("TimeOf(%d, %d) = %d, %v, want %d, %v", c.bytes, c.rate, got, ok, c.want, c.ok)
		}
	}
}

// Promise 2, at the ends: told by hand, not reckoned.
func TestBytesAtTheEnds(t *testing.T) {
	const most, top = impl.Most, 1 << 60
	for _, c := range []struct {
		time, rate, want int
		ok               bool
	}{
		{12000000, 125000, 1500, true},
		{333333333, 3, 0, true},
		{333333334, 3, 1, true},
		{0, 0, 0, true},
		{1000, 0, 0, true},
		{top, 1000000000, top, true},
		{most, 1000000000, most, true},
		{1000000000, most, most, true},
		{1000000001, most, 0, false},
		{most, 1000000001, 0, false},
		{most, most, 0, false},
		{-1, 1000, 0, false},
		{1000, -1, 0, false},
		{math.MinInt, math.MinInt, 0, false},
	} {
		if got, ok := impl.BytesOf(c.time, c.rate); got != c.want || ok != c.ok {
			t.Errorf("BytesOf(%d, %d) = %d, %v, want %d, %v", c.time, c.rate, got, ok, c.want, c.ok)
		}
	}
}
