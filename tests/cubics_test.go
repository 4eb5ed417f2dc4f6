package tests

import (
	"math"
	"math/big"
	"testing"

	"loop.example/g00453/impl"
)

const lastMs = 1000 * mostMs

// ordinaryCubic lost one at 5000 ms, at a height of 120: its curve begins at 70, and is 120 at 10000 ms.
func ordinaryCubic() impl.Cubic {
	return impl.Cubic{W: 80, Max: 120, K: 5000, Start: 5000, Thresh: 70, Begun: true}
}

// freshCubic has a height from earlier, and no curve yet.
func freshCubic() impl.Cubic {
	return impl.Cubic{W: 80, Max: 130, K: 777, Start: 90000, Thresh: 70}
}

// cubicFits is CubicOk by another road.
func cubicFits(c impl.Cubic) bool {
	for _, x := range [][3]int{{1, c.W, 1048576}, {0, c.Max, 1048576}, {0, c.K, 200000}, {0, c.Start, 1048576000}, {2, c.Thresh, 1048576}} {
		if x[1] < x[0] || x[1] > x[2] {
			return false
		}
	}
	return true
}

// timeFits holds how long ago the curve began against MaxMs.
func timeFits(c impl.Cubic, now int) bool {
	if now < 0 || now > lastMs {
		return false
	}
	return !c.Begun || now >= c.Start && now-c.Start <= mostMs
}

// nowsAround has times at the edges of c, and wrong ones.
func nowsAround(c impl.Cubic) []int {
	list := append(wrongNumbers(lastMs), 0, 1, 500, lastMs-1, lastMs)
	for _, at := range []int{c.Start, c.Start + c.K, c.Start + mostMs, lastMs - mostMs} {
		list = append(list, at-1, at, at+1)
	}
	return list
}

// grownCubic is CubicGrow, field by field.
func grownCubic(c impl.Cubic, now int) (impl.Cubic, bool) {
	if !cubicFits(c) || !timeFits(c, now) || c.W == mostSegs {
		return impl.Cubic{}, false
	}
	after := c
	if c.W < c.Thresh {
		after.W = c.W + 1
		return after, true
	}
	if !c.Begun {
		after = impl.Cubic{W: c.W, Max: c.Max, Start: now, Thresh: c.Thresh, Begun: true}
		if c.Max < c.W {
			after.Max = c.W
		}
		after.K = curveRoot(after.Max, c.W)
	}
	curve := curveAt(after.Max, after.K, now-after.Start)
	if curve > c.W { // what is half of W + 1, cut off, is W and one more where W is odd, halved
		after.W = min(curve, mostSegs, c.W+(c.W+c.W%2)/2)
	}
	return after, true
}

// lostCubic is CubicLoss, field by field.
func lostCubic(c impl.Cubic, now int) (impl.Cubic, bool) {
	if !cubicFits(c) || !timeFits(c, now) {
		return impl.Cubic{}, false
	}
	after := impl.Cubic{W: 7 * c.W / 10, Max: c.W, Start: now, Begun: true}
	if c.Max > c.W {
		after.Max = 17 * c.W / 20
	}
	if c.W == 1 {
		after.W = 1
	}
	after.Thresh = after.W
	if after.W == 1 {
		after.Thresh = 2
	}
	after.K = curveRoot(after.Max, after.W)
	return after, true
}

// checkGrown asks the promise itself too: no more than a half and one, and never less.
func checkGrown(t *testing.T, c impl.Cubic, now int) impl.Cubic {
	t.Helper()
	want, well := grownCubic(c, now)
	got, ok := impl.CubicGrow(c, now)
	if got != want || ok != well {
		t.Errorf("CubicGrow(%+v, %d) = %+v, %v, want %+v, %v", c, now, got, ok, want, well)
	}
	if ok && (!impl.CubicOk(got) || got.W < c.W || 2*(got.W-c.W) > c.W+2) {
		t.Errorf("CubicGrow(%+v, %d) = %+v", c, now, got)
	}
	return got
}

// checkLost asks the promise itself too: seven tenths, cut off, and at least 1.
func checkLost(t *testing.T, c impl.Cubic, now int) impl.Cubic {
	t.Helper()
	want, well := lostCubic(c, now)
	got, ok := impl.CubicLoss(c, now)
	if got != want || ok != well {
		t.Errorf("CubicLoss(%+v, %d) = %+v, %v, want %+v, %v", c, now, got, ok, want, well)
	}
	seven := 10*got.W <= 7*c.W && 7*c.W < 10*got.W+10
	if ok && (!impl.CubicOk(got) || !seven && (c.W != 1 || got.W != 1)) {
		t.Errorf("CubicLoss(%+v, %d) = %+v", c, now, got)
	}
	return got
}

// checkCubic asks what is as it should be; that it has two flags is nothing that CubicOk asks for.
func checkCubic(t *testing.T, c impl.Cubic, name string) {
	t.Helper()
	for _, begun := range []bool{false, true} {
		c.Begun = begun
		if !impl.CubicOk(c) || !cubicFits(c) {
			t.Errorf("%s: it is not CubicOk: %+v", name, c)
		}
		for _, now := range nowsAround(c) {
			checkGrown(t, c, now)
			checkLost(t, c, now)
		}
	}
}

// checkNoCubic asks all that go by CubicOk for their fixed answers.
func checkNoCubic(t *testing.T, c impl.Cubic, name string) {
	t.Helper()
	for _, begun := range []bool{false, true} {
		c.Begun = begun
		if impl.CubicOk(c) || cubicFits(c) {
			t.Errorf("%s: it is CubicOk: %+v", name, c)
		}
		for _, now := range nowsAround(c) {
			if got, ok := impl.CubicGrow(c, now); ok || got != (impl.Cubic{}) {
				t.Errorf("%s: CubicGrow(%+v, %d) = %+v, %v", name, c, now, got, ok)
			}
			if got, ok := impl.CubicLoss(c, now); ok || got != (impl.Cubic{}) {
				t.Errorf("%s: CubicLoss(%+v, %d) = %+v, %v", name, c, now, got, ok)
			}
		}
	}
}

// Promise 11: W, Max, K, Start and Thresh at their ends, each one below and one above, and wrong ones.
func TestCubicNumbers(t *testing.T) {
	for _, x := range []struct {
		name        string
		least, most int
		of          func(c *impl.Cubic) *int
	}{
		{"W", 1, 1048576, func(c *impl.Cubic) *int { return &c.W }},
		{"Max", 0, 1048576, func(c *impl.Cubic) *int { return &c.Max }},
		{"K", 0, 200000, func(c *impl.Cubic) *int { return &c.K }},
		{"Start", 0, 1048576000, func(c *impl.Cubic) *int { return &c.Start }},
		{"Thresh", 2, 1048576, func(c *impl.Cubic) *int { return &c.Thresh }},
	} {
		values := []int{x.least - 1, x.least, x.least + 1, x.most - 1, x.most, x.most + 1, x.least - 2, x.most + 2}
		for _, v := range append(values, wrongNumbers(x.most)...) {
			for _, c := range []impl.Cubic{ordinaryCubic(), freshCubic()} {
				*x.of(&c) = v
				if v >= x.least && v <= x.most {
					checkCubic(t, c, x.name)
				} else {
					checkNoCubic(t, c, x.name)
				}
			}
		}
	}
}

// Promise 11: wrong in several places at once, the zero value, and all fields at an end.
func TestNoCubics(t *testing.T) {
	for _, c := range []impl.Cubic{
		{}, {W: 1}, {W: 1, Thresh: 1}, {Thresh: 2}, {W: -1, Max: -1, K: -1, Start: -1, Thresh: -1},
		{W: mostSegs + 1, Max: mostSegs + 1, K: mostK + 1, Start: lastMs + 1, Thresh: mostSegs + 1},
		{W: math.MinInt, Max: math.MinInt, K: math.MinInt, Start: math.MinInt, Thresh: math.MinInt},
		{W: math.MaxInt, Max: math.MaxInt, K: math.MaxInt, Start: math.MaxInt, Thresh: math.MaxInt},
		{W: 1, Thresh: 2, Start: math.MaxInt}, {W: 1, Thresh: 2, Start: math.MaxInt - mostMs}, {W: 1, Thresh: 2, Start: -mostMs},
	} {
		checkNoCubic(t, c, "not as it should be")
	}
	checkCubic(t, impl.Cubic{W: 1, Thresh: 2}, "the least one")
	checkCubic(t, impl.Cubic{W: mostSegs, Max: mostSegs, K: mostK, Start: lastMs, Thresh: mostSegs}, "the greatest one")
	checkCubic(t, impl.Cubic{W: mostSegs - 1, Max: mostSegs, K: 0, Start: 0, Thresh: 2}, "one with the highest curve")
	checkCubic(t, impl.Cubic{W: 1, Max: 0, K: mostK, Start: lastMs, Thresh: 2}, "one with the lowest curve")
}

// Promise 11: a w of 1 and of MaxSegs, one below and one above.
func TestNewCubics(t *testing.T) {
	for _, w := range []int{1, 2, 3, 10, 100, 524288, 1048575, 1048576} {
		c, ok := impl.CubicNew(w)
		if !ok || c != (impl.Cubic{W: w, Thresh: 1048576}) {
			t.Errorf("CubicNew(%d) = %+v, %v", w, c, ok)
		}
		checkCubic(t, c, "a new one")
	}
	for _, w := range append(wrongNumbers(mostSegs), 0) {
		if c, ok := impl.CubicNew(w); ok || c != (impl.Cubic{}) {
			t.Errorf("CubicNew(%d) = %+v, %v", w, c, ok)
		}
	}
}

// friendly is Friendly by another road: one quotient of all, however great.
func friendly(w, acked int) int {
	if w < 1 || w > mostSegs || acked < 0 || acked > 1<<30 {
		return 0
	}
	more := new(big.Int).Mul(large(acked), large(9))
	return w + int(cutOff(more, large(17*w)).Int64())
}

// Promise 11: w at 1 and at MaxSegs, acked at 0 and at 2^30, each one below and one above, by hand and by another road.
func TestFriendlyWindows(t *testing.T) {
	for _, c := range [][3]int{
		{10, 190, 20}, {10, 188, 19}, {10, 189, 20}, {1, 0, 1}, {1, 1, 1}, {1, 2, 2}, {1, 17, 10}, {1, 16, 9}, {1, 1 << 30, 568451554}, {1, 1<<30 - 1, 568451554}, {1, 1<<30 - 2, 568451553},
		{2, 3, 2}, {2, 4, 3}, {17, 289, 26}, {17, 288, 25}, {1048576, 0, 1048576}, {1048576, 1 << 30, 1049118}, {1048576, 1980643, 1048576}, {1048576, 1980644, 1048577}, {1048575, 1 << 30, 1049117},
		{0, 10, 0}, {-1, 10, 0}, {1048577, 10, 0}, {10, -1, 0}, {10, 1<<30 + 1, 0}, {0, 0, 0}, {0, -1, 0}, {1048577, 1<<30 + 1, 0},
	} {
		if got := impl.Friendly(c[0], c[1]); got != c[2] {
			t.Errorf("Friendly(%d, %d) = %d, want %d", c[0], c[1], got, c[2])
		}
	}
	d := newDice()
	acks := append(wrongNumbers(1<<30), 0, 1, 2, 17, 190, 1<<30-1, 1<<30)
	for range 2000 {
		acks = append(acks, d.one(d.below(1<<30+1), d.below(5000)))
	}
	for _, w := range append(segsAround(), 10, 16, 17, 18, 1+d.below(mostSegs), 1+d.below(mostSegs)) {
		for _, acked := range acks {
			if got, want := impl.Friendly(w, acked), friendly(w, acked); got != want {
				t.Errorf("Friendly(%d, %d) = %d, want %d", w, acked, got, want)
			}
		}
	}
}

// Promise 11: a now of 0 and of 1000 MaxMs, and with Begun of Start and of Start + MaxMs, each one below and one above, by hand; the less end counts.
func TestCubicTimes(t *testing.T) {
	for _, c := range []struct {
		name       string
		start, now int
		fresh, yet bool // without Begun, with it
	}{
		{"ahead of all", 0, -1, false, false}, {"the first", 0, 0, true, true}, {"the second", 0, 1, true, true},
		{"ahead of the end", 0, mostMs - 1, true, true}, {"the end", 0, mostMs, true, true}, {"behind the end", 0, mostMs + 1, true, false},
		{"ahead of all, begun later", 5000, -1, false, false}, {"the first, begun later", 5000, 0, true, false},
		{"ahead of Start", 5000, 4999, true, false}, {"Start", 5000, 5000, true, true}, {"behind Start", 5000, 5001, true, true},
		{"ahead of its end", 5000, 5000 + mostMs - 1, true, true}, {"its end", 5000, 5000 + mostMs, true, true}, {"behind its end", 5000, 5000 + mostMs + 1, true, false},
		{"the last but one", 5000, lastMs - 1, true, false}, {"the last", 5000, lastMs, true, false}, {"behind all", 5000, lastMs + 1, false, false},
		{"the last, at its end", lastMs - mostMs, lastMs, true, true}, {"behind all, behind its end", lastMs - mostMs, lastMs + 1, false, false}, {"ahead of its end, the last but one", lastMs - mostMs, lastMs - 1, true, true},
		{"the last, behind its end", lastMs - mostMs - 1, lastMs, true, false}, {"its end, the last but one", lastMs - mostMs - 1, lastMs - 1, true, true},
		{"the last, ahead of its end", lastMs - mostMs + 1, lastMs, true, true}, {"behind all, at its end", lastMs - mostMs + 1, lastMs + 1, false, false},
		{"the last, just begun", lastMs, lastMs, true, true}, {"behind all, just begun", lastMs, lastMs + 1, false, false}, {"ahead of Start, the last but one", lastMs, lastMs - 1, true, false}, {"the first, begun at the last", lastMs, 0, true, false},
	} {
		for _, x := range []impl.Cubic{ordinaryCubic(), {W: 3, Thresh: 9}, {W: 50, Max: 10, K: 3, Thresh: 50}} {
			x.Start = c.start
			for _, begun := range []bool{false, true} {
				x.Begun = begun
				want := c.fresh && !begun || c.yet && begun
				grown, more := impl.CubicGrow(x, c.now)
				lost, less := impl.CubicLoss(x, c.now)
				if more != want || less != want || !want && (grown != (impl.Cubic{}) || lost != (impl.Cubic{})) {
					t.Errorf("%s, %+v at %d: %+v, %v and %+v, %v, want %v", c.name, x, c.now, grown, more, lost, less, want)
				}
				checkGrown(t, x, c.now)
				checkLost(t, x, c.now)
			}
		}
	}
}
