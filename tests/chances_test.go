package tests

import (
	"math/big"
	"testing"

	"loop.example/g00453/impl"
)

// plainRed has p as its chance ahead of what Count adds, if p is in 0 .. One - 1.
func plainRed(p int, count int) impl.Red {
	return impl.Red{MinT: 1, MaxT: 2, MaxP: impl.One, Avg: impl.One + p, Count: count}
}

func cutOff(a, b *big.Int) *big.Int { return new(big.Int).Quo(a, b) }

// redChance is RedProb of a RedOk one by another road.
func redChance(r impl.Red) int {
	if r.Avg/impl.One < r.MinT {
		return 0
	}
	if r.Avg/impl.One >= r.MaxT {
		return impl.One
	}
	one := large(impl.One)
	p := cutOff(large(r.Avg-r.MinT*impl.One), large(r.MaxT-r.MinT))
	p = cutOff(p.Mul(p, large(r.MaxP)), one)
	rest := new(big.Int).Sub(one, new(big.Int).Mul(large(r.Count), p))
	if rest.Cmp(p) <= 0 {
		return impl.One
	}
	return int(cutOff(new(big.Int).Mul(p, one), rest).Int64())
}

// redArrival is RedArrive of what is as it should be, by another road.
func redArrival(r impl.Red, bytes, draw int) (impl.Red, bool) {
	r.Avg = average(r.Avg, bytes)
	prob := redChance(r)
	if prob == 0 || draw < prob {
		r.Count = 0
		return r, draw < prob
	}
	r.Count++
	return r, false
}

func checkChance(t *testing.T, r impl.Red, want int) {
	t.Helper()
	if got := impl.RedProb(r); got != want {
		t.Errorf("RedProb(%v) = %d, want %d", r, got, want)
	}
}

func checkArrive(t *testing.T, r impl.Red, bytes, draw int) {
	t.Helper()
	want, hits := redArrival(r, bytes, draw)
	if got, hit := impl.RedArrive(r, bytes, draw); got != want || hit != hits || !impl.RedOk(got) {
		t.Errorf("RedArrive(%v, %d, %d) = %v, %v, want %v, %v", r, bytes, draw, got, hit, want, hits)
	}
}

// Promise 5: Avg at MinT One and at MaxT One, one below and one above.
func TestChancesAtTheThresholds(t *testing.T) {
	for _, count := range []int{0, 1, 1000000} {
		r := impl.Red{MinT: 1000, MaxT: 5000, MaxP: 65536, Count: count}
		low, high := 1000*65536, 5000*65536
		for _, avg := range []int{0, 1, low - 2, low - 1, low, low + 1, low + 3999} {
			r.Avg = avg
			checkChance(t, r, 0)
		}
		for _, avg := range []int{high, high + 1, high + 2, redTop - 1, redTop} {
			r.Avg = avg
			checkChance(t, r, 65536)
		}
	}
	r := impl.Red{MinT: 1000, MaxT: 5000, MaxP: 65536, Avg: 1000*65536 + 4000}
	checkChance(t, r, 1)
	r.Avg = 5000*65536 - 1
	checkChance(t, r, 65535)
	r.MaxP = 1
	checkChance(t, r, 0)
	r.Avg++
	checkChance(t, r, 65536)
}

// Promise 5: each quotient is cut off by itself; the rest is what Count leaves.
func TestChancesByHand(t *testing.T) {
	checkChance(t, impl.Red{MinT: 1000, MaxT: 5000, MaxP: 6553, Avg: 3000 * 65536}, 3276)
	checkChance(t, impl.Red{MinT: 1000, MaxT: 5000, MaxP: 6553, Avg: 3000 * 65536, Count: 10}, 6550)
	checkChance(t, impl.Red{MinT: 1, MaxT: 4, MaxP: 3, Avg: 3 * 65536}, 1)
	checkChance(t, impl.Red{MinT: 3000, MaxT: 9000, MaxP: 6553, Avg: 6000 * 65536}, 3276)
	checkChance(t, impl.Red{MinT: 1, MaxT: 1048576, MaxP: 65536, Avg: 1048576*65536 - 1}, 65535)
	checkChance(t, impl.Red{MinT: 1048575, MaxT: 1048576, MaxP: 65536, Avg: 1048575*65536 + 32768}, 32768)
	for _, c := range []struct{ p, count, want int }{
		{0, 0, 0}, {0, 1, 0}, {0, 1000000, 0},
		{1, 0, 1}, {1, 32768, 2}, {1, 65532, 16384}, {1, 65533, 21845}, {1, 65536, 65536}, {1, 999999, 65536}, {1, 1000000, 65536},
		{65535, 0, 65535}, {65535, 1, 65536}, {65535, 1000000, 65536},
		{16384, 0, 16384}, {16384, 1, 21845}, {16384, 2, 32768}, {16384, 4, 65536}, {16384, 5, 65536},
	} {
		checkChance(t, plainRed(c.p, c.count), c.want)
	}
}

// Promise 5: a rest at p and one above it.
func TestRestsAtTheChance(t *testing.T) {
	for _, c := range []struct{ p, count int }{{32768, 1}, {16384, 3}, {256, 255}, {2, 32767}, {1, 65535}} {
		checkChance(t, plainRed(c.p, c.count), 65536)
	}
	for _, c := range []struct{ p, count, want int }{{21845, 2, 65533}, {13107, 4, 65531}, {255, 256, 65280}, {1, 65534, 32768}, {32767, 1, 65532}} {
		checkChance(t, plainRed(c.p, c.count), c.want)
	}
	for p := 1; p < impl.One; p += 37 {
		for count := max(0, impl.One/p-3); count <= impl.One/p+1; count++ {
			r := plainRed(p, count)
			checkChance(t, r, redChance(r))
		}
	}
}

func TestChancesOfAllForms(t *testing.T) {
	list := noise(6 * 50000)
	none, all, some := 0, 0, 0
	for i := 0; i < len(list); i += 6 {
		r := anyRed(list[i : i+6])
		checkChance(t, r, redChance(r))
		switch impl.RedProb(r) {
		case 0:
			none++
		case impl.One:
			all++
		default:
			some++
		}
		if t.Failed() {
			t.FailNow()
		}
	}
	if none < 1000 || all < 1000 || some < 1000 {
		t.Error("too few of one kind:", none, all, some)
	}
}

// Promise 5: the longer ago the last one was hit, the greater the chance.
func TestChancesGrowWithCount(t *testing.T) {
	for _, p := range []int{0, 1, 2, 3, 255, 256, 3276, 21845, 32767, 32768, 65534, 65535} {
		last := impl.RedProb(plainRed(p, 0))
		if last != p {
			t.Errorf("the chance begins at %d, not at %d", last, p)
		}
		for count := 1; count <= 70000; count++ {
			next := impl.RedProb(plainRed(p, count))
			if next < last || p >= 256 && next == last && next < impl.One {
				t.Fatalf("with %d the chance goes from %d to %d at a Count of %d", p, last, next, count)
			}
			last = next
		}
		if p > 0 && last != impl.One {
			t.Errorf("with %d the chance is never One", p)
		}
	}
}

// Promise 5: just those are hit whose draw is below the chance, all draws being asked.
func TestJustTheDrawsBelowTheChance(t *testing.T) {
	for _, r := range []impl.Red{ordinaryRed(), plainRed(1, 0), plainRed(21845, 2), plainRed(300, 0), plainRed(40000, 1), {MinT: 1000, MaxT: 5000, MaxP: 1, Avg: 3000 * impl.One, Count: 5}, {MinT: 10, MaxT: 20, MaxP: 1, Count: 5}} {
		for _, bytes := range []int{0, 1, 3000, 60000, redBytes} {
			after, _ := impl.RedAvg(r, bytes)
			chance, hits := impl.RedProb(after), 0
			for draw := range impl.One {
				if _, hit := impl.RedArrive(r, bytes, draw); hit {
					hits++
				}
			}
			if hits != chance {
				t.Errorf("%v with %d bytes: %d draws hit, the chance is %d", r, bytes, hits, chance)
			}
			for _, draw := range []int{0, 1, chance - 2, chance - 1, chance, chance + 1, impl.One - 2, impl.One - 1} {
				if draw >= 0 && draw < impl.One {
					checkArrive(t, r, bytes, draw)
				}
			}
		}
	}
}

// Promise 5: draw of 0, of One - 1, one below and one above.
func TestWrongDraws(t *testing.T) {
	none := impl.Red{MinT: 1000, MaxT: 5000, MaxP: 6553}
	all := impl.Red{MinT: 1000, MaxT: 5000, MaxP: 6553, Avg: redTop}
	for _, r := range []impl.Red{ordinaryRed(), none, all} {
		for _, draw := range wrongNumbers(impl.One - 1) {
			for _, bytes := range []int{0, 3000, redBytes} {
				if got, hit := impl.RedArrive(r, bytes, draw); hit || got != (impl.Red{}) {
					t.Errorf("RedArrive(%v, %d, %d) = %v, %v", r, bytes, draw, got, hit)
				}
			}
		}
		for _, draw := range []int{0, 1, impl.One - 2, impl.One - 1} {
			checkArrive(t, r, 3000, draw)
		}
	}
}

// Promise 5: a Count begins anew behind a hit and where there is no chance, and else goes on by one.
func TestCountsByHand(t *testing.T) {
	for _, c := range []struct {
		p, count, draw int
		hit            bool
		after          int
	}{
		{300, 0, 299, true, 0}, {300, 0, 300, false, 1}, {300, 7, 65535, false, 8}, {300, 7, 0, true, 0},
		{0, 0, 0, false, 0}, {0, 1, 0, false, 0}, {0, 5, 65535, false, 0}, {0, 1000000, 0, false, 0},
		{1, 65533, 21844, true, 0}, {1, 65533, 21845, false, 65534}, {1, 65534, 32768, false, 65535}, {1, 65535, 65535, true, 0},
		{1, 999999, 65535, true, 0}, {1, 1000000, 65535, true, 0}, {65535, 1000000, 0, true, 0},
	} {
		r := plainRed(c.p, c.count)
		r.MinT, r.MaxT, r.Avg = 5, 6, 5*impl.One+c.p
		bytes := 5
		for average(r.Avg, bytes) != 5*impl.One+c.p { // an average of which this is the next one
			r.Avg++
		}
		want := r
		want.Avg, want.Count = 5*impl.One+c.p, c.after
		if got, hit := impl.RedArrive(r, bytes, c.draw); hit != c.hit || got != want {
			t.Errorf("RedArrive(%v, %d, %d) = %v, %v, want %v, %v", r, bytes, c.draw, got, hit, want, c.hit)
		}
	}
}

// Promise 5: a Count of 0 and of 1000000, below, amid and above the thresholds.
func TestCountsAtTheirEnds(t *testing.T) {
	for _, count := range []int{0, 1, 999999, 1000000} {
		for _, avg := range []int{0, 999 * impl.One, 1001 * impl.One, 3000 * impl.One, 4999 * impl.One, 5001 * impl.One, redTop} {
			for _, maxP := range []int{1, 6553, impl.One} {
				r := impl.Red{MinT: 1000, MaxT: 5000, MaxP: maxP, Avg: avg, Count: count}
				for _, draw := range []int{0, 1, 3275, 3276, impl.One - 1} {
					checkArrive(t, r, avg/impl.One, draw)
				}
			}
		}
	}
}

// Promise 5: the chance is that of the average that has heard of bytes, not of the one ahead.
func TestArrivalsHearOfBytesFirst(t *testing.T) {
	r := impl.Red{MinT: 1000, MaxT: 1001, MaxP: impl.One, Avg: 1001*impl.One - 1, Count: 3}
	if got, hit := impl.RedArrive(r, 2000, impl.One-1); !hit || got.Avg < 1001*impl.One || got.Count != 0 {
		t.Error("over the upper threshold:", got, hit)
	}
	r.Avg = 1000 * impl.One
	if got, hit := impl.RedArrive(r, 0, 0); hit || got.Avg >= 1000*impl.One || got.Count != 0 {
		t.Error("under the lower threshold:", got, hit)
	}
}

// Promise 5: a long time at one narrow place, whose queue swells and empties.
func TestArrivalsOneBehindTheOther(t *testing.T) {
	r, _ := impl.RedNew(3000, 9000, 6553)
	bytes, hits, waits := 6000, 0, 0
	for i, x := range noise(200000) {
		bytes = min(redBytes, max(0, bytes+x&2047-1000-i/5000%2*60))
		draw := x >> 5 & (impl.One - 1)
		checkArrive(t, r, bytes, draw)
		next, hit := impl.RedArrive(r, bytes, draw)
		if hit {
			hits++
		} else if next.Count > 0 {
			waits++
		}
		r = next
		if t.Failed() {
			t.FailNow()
		}
	}
	if hits < 1000 || waits < 1000 {
		t.Error("too few of one kind:", hits, waits)
	}
}

// No function keeps anything: answers are the same whatever was asked ahead.
func TestRedsKeepNothing(t *testing.T) {
	list := noise(6 * 2000)
	var first []int
	for i := 0; i < len(list); i += 6 {
		first = append(first, impl.RedProb(anyRed(list[i:i+6])))
	}
	for i := len(first) - 1; i >= 0; i-- {
		r := anyRed(list[6*i : 6*i+6])
		impl.RedProb(impl.Red{})
		impl.RedArrive(ordinaryRed(), 3000, 0)
		if impl.RedProb(r) != first[i] || impl.RedProb(r) != first[i] {
			t.Fatalf("RedProb(%v) was %d, is %d", r, first[i], impl.RedProb(r))
		}
	}
}
