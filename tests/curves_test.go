package tests

import (
	"math"
	"testing"

	"loop.example/g00453/impl"
)

const mostSegs = 1048576
const mostMs = 1048576
const mostK = 200000

// segmentCube is how much of the third power of milliseconds one segment is.
const segmentCube = 2500000000

// curveRoot is CubicK of what is as it should be, by another road: a float comes near, and a few steps come to it.
func curveRoot(height, w int) int {
	if height <= w {
		return 0
	}
	cube := segmentCube * (height - w)
	x := int(math.Cbrt(float64(cube))) - 2
	for (x+1)*(x+1)*(x+1) <= cube {
		x++
	}
	return x
}

// curveAt is CubicW of what is as it should be, by another road: what lies between is above 0, and is added or taken away.
func curveAt(height, k, t int) int {
	if t < k {
		return height - cubed(k-t)
	}
	return height + cubed(t-k)
}

func cubed(apart int) int {
	x := large(apart)
	x.Mul(x, x).Mul(x, large(apart))
	return int(cutOff(x, large(segmentCube)).Int64())
}

func fits(n, least, most int) bool { return n >= least && n <= most }

func checkRoot(t *testing.T, height, w int) int {
	t.Helper()
	want := 0
	if fits(height, 0, mostSegs) && fits(w, 0, mostSegs) {
		want = curveRoot(height, w)
	}
	got := impl.CubicK(height, w)
	if got != want {
		t.Errorf("CubicK(%d, %d) = %d, want %d", height, w, got, want)
	}
	return got
}

func checkCurve(t *testing.T, height, k, at int) int {
	t.Helper()
	want := 0
	if fits(height, 0, mostSegs) && fits(k, 0, mostK) && fits(at, 0, mostMs) {
		want = curveAt(height, k, at)
	}
	got := impl.CubicW(height, k, at)
	if got != want {
		t.Errorf("CubicW(%d, %d, %d) = %d, want %d", height, k, at, got, want)
	}
	return got
}

// Promise 11: max at w, one below and one above, max and w at 0 and at MaxSegs, roots that are whole and roots that are not, by hand.
func TestRootsByHand(t *testing.T) {
	for _, c := range []struct{ height, w, want int }{
		{0, 0, 0}, {0, 1, 0}, {1, 0, 1357}, {1, 1, 0}, {2, 0, 1709}, {2, 1, 1357}, {1, 2, 0},
		{69, 70, 0}, {70, 70, 0}, {71, 70, 1357}, {100, 70, 4217}, {70, 100, 0},
		{49, 0, 4966}, {50, 0, 5000}, {51, 0, 5033}, {119, 70, 4966}, {120, 70, 5000}, {121, 70, 5033},
		{399, 0, 9991}, {400, 0, 10000}, {401, 0, 10008}, {984150, 0, 135000}, {984149, 0, 134999}, {984151, 0, 135000},
		{1048576, 0, 137883}, {1048575, 0, 137883}, {1048576, 1, 137883}, {1048576, 64426, 135000}, {1048576, 64427, 134999},
		{1048576, 1048576, 0}, {1048576, 1048575, 1357}, {1048575, 1048575, 0}, {1048575, 1048576, 0}, {0, 1048576, 0}, {0, 1048575, 0},
		{1048577, 1048576, 0}, {1048577, 0, 0}, {1048577, 1048577, 0}, {1048576, 1048577, 0}, {100, 1048577, 0}, {100, -1, 0}, {0, -1, 0}, {-1, 0, 0}, {-1, -1, 0}, {-1, -2, 0}, {1048577, -1, 0},
	} {
		if got := checkRoot(t, c.height, c.w); got != c.want {
			t.Errorf("CubicK(%d, %d) = %d, want %d", c.height, c.w, got, c.want)
		}
	}
}

// Promise 11: just 50 times a third power has a whole root.
func TestWholeRoots(t *testing.T) {
	for n := 1; n <= 27; n++ {
		apart := 50 * n * n * n
		for _, w := range []int{0, 1, 1000, mostSegs - apart - 1, mostSegs - apart} {
			below, at := checkRoot(t, w+apart-1, w), checkRoot(t, w+apart, w)
			if at != 5000*n || below >= at {
				t.Errorf("%d apart from %d on: %d, one below: %d", apart, w, at, below)
			}
			checkRoot(t, w+apart+1, w)
		}
	}
}

// Promise 11: each height above a window has the root whose third power is not above it, and the next one's is.
func TestRootsOfAllHeights(t *testing.T) {
	for apart := 1; apart <= mostSegs; apart++ {
		for _, w := range [...]int{0, mostSegs - apart} {
			k := impl.CubicK(w+apart, w)
			if k*k*k > segmentCube*apart || (k+1)*(k+1)*(k+1) <= segmentCube*apart {
				t.Fatalf("CubicK(%d, %d) = %d", w+apart, w, k)
			}
		}
	}
}

// segsAround has windows and heights at their ends and in between, and wrong ones.
func segsAround() []int {
	return append(wrongNumbers(mostSegs), 0, 1, 2, 3, 69, 70, 100, 5000, 524288, mostSegs-2, mostSegs-1, mostSegs)
}

// Promise 11: a max and a w at their ends, each one below and one above, and wrong ones, also both.
func TestHeightRootsAtTheEnds(t *testing.T) {
	for _, height := range segsAround() {
		for _, w := range segsAround() {
			checkRoot(t, height, w)
			for step := -1; step <= 1; step++ {
				checkRoot(t, height+step, height)
				checkRoot(t, w, w+step)
			}
		}
	}
}

// Promise 11: t at k, one below and one above; third powers that are just so many segments, or so many times 1000000, one below and one above, above 0 and below it; by hand.
func TestCurvesByHand(t *testing.T) {
	for _, c := range []struct{ height, k, at, want int }{
		{100, 4217, 0, 71}, {100, 4217, 4217, 100}, {100, 4217, 6217, 103}, {100, 4217, 4216, 100}, {100, 4217, 4218, 100},
		{100, 10000, 8642, 99}, {100, 10000, 8643, 100}, {100, 10000, 11357, 100}, {100, 10000, 11358, 101},
		{100, 10000, 4999, 50}, {100, 10000, 5000, 50}, {100, 10000, 5001, 51}, {100, 10000, 14999, 149}, {100, 10000, 15000, 150}, {100, 10000, 15001, 150},
		{500, 20000, 9999, 100}, {500, 20000, 10000, 100}, {500, 20000, 10001, 101}, {500, 20000, 29999, 899}, {500, 20000, 30000, 900}, {500, 20000, 30001, 900},
		{7, 100, 0, 7}, {7, 100, 1, 7}, {7, 101, 0, 7}, {7, 0, 99, 7}, {7, 0, 100, 7}, {7, 0, 101, 7},
		{7, 1400, 0, 6}, {7, 1399, 0, 6}, {7, 1401, 0, 6}, {7, 0, 1399, 8}, {7, 0, 1400, 8}, {7, 0, 1401, 8},
		{10, 5000, 0, -40}, {10, 4999, 0, -39}, {10, 5001, 0, -40}, {0, 5000, 0, -50}, {0, 4999, 0, -49}, {0, 1357, 0, 0}, {0, 1358, 0, -1},
		{0, 0, 0, 0}, {0, 0, 1, 0}, {1048576, 0, 0, 1048576}, {0, 200000, 0, -3200000}, {0, 200000, 200000, 0}, {1048576, 200000, 0, -2151424},
		{0, 0, 1048576, 461168601}, {0, 0, 1048575, 461167282}, {1048576, 0, 1048576, 462217177}, {0, 199999, 0, -3199952}, {0, 200000, 1, -3199952},
		{1048576, 200000, 1048576, 245466035},
	} {
		if got := checkCurve(t, c.height, c.k, c.at); got != c.want {
			t.Errorf("CubicW(%d, %d, %d) = %d, want %d", c.height, c.k, c.at, got, c.want)
		}
	}
}

// Promise 11: max, k and t at the least and at the greatest that they may be, each one below and one above, and wrong ones, one alone and together.
func TestCurvesAtTheEnds(t *testing.T) {
	ks := append(wrongNumbers(mostK), 0, 1, 4217, 137883, mostK-1, mostK)
	times := append(wrongNumbers(mostMs), 0, 1, 4216, 4217, 4218, mostK-1, mostK, mostK+1, mostMs-1, mostMs)
	for _, height := range segsAround() {
		for _, k := range ks {
			for _, at := range times {
				checkCurve(t, height, k, at)
			}
		}
	}
	for _, c := range [][3]int{{-1, 10, 10}, {mostSegs + 1, 10, 10}, {100, -1, 10}, {100, mostK + 1, 10}, {100, 10, -1}, {100, 10, mostMs + 1}, {-1, -1, -1}, {mostSegs + 1, mostK + 1, mostMs + 1}} {
		if got := impl.CubicW(c[0], c[1], c[2]); got != 0 {
			t.Errorf("CubicW(%d, %d, %d) = %d", c[0], c[1], c[2], got)
		}
	}
}

// Promise 11: distances that are a multiple of 100, and so have a third power that is one of 1000000, one below and one above, on both sides of k.
func TestCurvesAtMultiples(t *testing.T) {
	for apart := 100; apart <= mostMs; apart += 100 {
		for step := -1; step <= 1; step++ {
			if k := apart + step; k <= mostK {
				checkCurve(t, 1000, k, 0)
				checkCurve(t, mostSegs, mostK, mostK-k)
			}
			checkCurve(t, 1000, 0, min(apart+step, mostMs))
		}
	}
}

// Promise 11: the curve does not go down, one moment after the other, ahead of k, at it and behind it.
func TestTheCurveDoesNotGoDown(t *testing.T) {
	for _, c := range [][2]int{{100, 4217}, {0, 0}, {0, mostK}, {mostSegs, 0}, {mostSegs, mostK}, {mostSegs, 137883}, {1, 1357}, {5000, 30000}} {
		height, k := c[0], c[1]
		last := impl.CubicW(height, k, 0)
		for at := 1; at <= mostMs; at++ {
			w := impl.CubicW(height, k, at)
			if w < last || at <= k && w > height || at >= k && w < height {
				t.Fatalf("CubicW(%d, %d, %d) = %d, a moment ago %d", height, k, at, w, last)
			}
			last = w
		}
		if first := impl.CubicW(height, k, 0); last <= height || k > 1357 && first >= height {
			t.Errorf("CubicW(%d, %d, ..) goes from %d to %d", height, k, first, last)
		}
	}
}

// Promise 11: the curve is max at k.
func TestTheCurveIsMaxAtK(t *testing.T) {
	for k := range mostK + 1 {
		for _, height := range [...]int{0, 1, 100, mostSegs - 1, mostSegs} {
			if got := impl.CubicW(height, k, k); got != height {
				t.Fatalf("CubicW(%d, %d, %d) = %d", height, k, k, got)
			}
		}
	}
	for height := range mostSegs + 1 {
		k := impl.CubicK(height, height*7/10)
		if got := impl.CubicW(height, k, k); got != height {
			t.Fatalf("CubicW(%d, %d, %d) = %d", height, k, k, got)
		}
	}
}

// beginsWell is the promise's own sum, held in hundredths.
func beginsWell(height, w int) bool {
	first := impl.CubicW(height, impl.CubicK(height, w), 0)
	return first >= w && 100*(first-w) <= 100+height-w
}

// Promise 11: the curve begins at w, or not more than 1 and a hundredth of max - w above it, for each distance, and for each window behind a loss.
func TestTheCurveBeginsAtTheWindow(t *testing.T) {
	for apart := range mostSegs + 1 {
		for _, w := range [...]int{0, min(1, mostSegs-apart), (mostSegs - apart) / 2, mostSegs - apart} {
			if !beginsWell(w+apart, w) {
				t.Fatalf("with a height of %d and a window of %d the curve begins at %d", w+apart, w, impl.CubicW(w+apart, impl.CubicK(w+apart, w), 0))
			}
		}
	}
	for height := range mostSegs + 1 {
		if w := height * 7 / 10; !beginsWell(height, w) {
			t.Fatalf("with a height of %d and a window of %d the curve begins at %d", height, w, impl.CubicW(height, impl.CubicK(height, w), 0))
		}
	}
}

// Promise 11: where the root is whole, the curve begins just at w.
func TestWholeRootsBeginAtTheWindow(t *testing.T) {
	for n := range 28 {
		for _, w := range []int{0, 1, 70, mostSegs - 50*n*n*n} {
			height := w + 50*n*n*n
			if got := impl.CubicW(height, impl.CubicK(height, w), 0); got != w {
				t.Errorf("with a height of %d and a window of %d the curve begins at %d", height, w, got)
			}
		}
	}
}

// Promise 11: curves of all forms.
func TestCurvesOfAllForms(t *testing.T) {
	d := newDice()
	for range 200000 {
		height, w := d.below(mostSegs+1), d.below(mostSegs+1)
		k := d.one(checkRoot(t, height, w), d.below(mostK+1))
		at := d.one(d.below(mostMs+1), d.below(mostK+1), brought(k+d.below(4001)-2000, 0, mostMs))
		checkCurve(t, height, k, at)
		if t.Failed() {
			t.FailNow()
		}
	}
}
