package tests

import (
	"math"
	"testing"

	"loop.example/g00453/impl"
)

// cubicCase tells by hand what one step at a time makes of c.
type cubicCase struct {
	name string
	c    impl.Cubic
	now  int
	want impl.Cubic
}

func checkGrowths(t *testing.T, list []cubicCase) {
	t.Helper()
	for _, x := range list {
		if got := checkGrown(t, x.c, x.now); got != x.want {
			t.Errorf("%s: CubicGrow(%+v, %d) = %+v, want %+v", x.name, x.c, x.now, got, x.want)
		}
	}
}

// Promise 11: W at Thresh, one below and one above: below it W is one more, and nothing else changes, whatever the curve says.
func TestGrowthBelowThresh(t *testing.T) {
	cubic := func(w, height, thresh int, begun bool) impl.Cubic {
		return impl.Cubic{W: w, Max: height, K: 5000, Start: 5000, Thresh: thresh, Begun: begun}
	}
	checkGrowths(t, []cubicCase{
		{"far below", cubic(5, 120, 80, false), 6000, cubic(6, 120, 80, false)},
		{"far below, begun", cubic(5, 120, 80, true), 10000, cubic(6, 120, 80, true)},
		{"one below", cubic(79, 120, 80, false), 6000, cubic(80, 120, 80, false)},
		{"one below, ahead of Start", cubic(79, 120, 80, false), 0, cubic(80, 120, 80, false)},
		{"one below, begun, a high curve", cubic(79, 120, 80, true), 10000, cubic(80, 120, 80, true)},
		{"one below, begun, a low curve", cubic(79, 120, 80, true), 5000, cubic(80, 120, 80, true)},
		{"one below, without a height", cubic(79, 0, 80, false), 6000, cubic(80, 0, 80, false)},
		{"at it, begun, a high curve", cubic(80, 120, 80, true), 10000, cubic(120, 120, 80, true)},
		{"at it, begun, a low curve", cubic(80, 120, 80, true), 5000, cubic(80, 120, 80, true)},
		{"at it, without a height", cubic(80, 0, 80, false), 6000, impl.Cubic{W: 80, Max: 80, Start: 6000, Thresh: 80, Begun: true}},
		{"one above, begun, a high curve", cubic(81, 120, 80, true), 10000, cubic(120, 120, 80, true)},
		{"one above, begun, a low curve", cubic(81, 120, 80, true), 5000, cubic(81, 120, 80, true)},
		{"one above, without a height", cubic(81, 0, 80, false), 6000, impl.Cubic{W: 81, Max: 81, Start: 6000, Thresh: 80, Begun: true}},
		{"the least", cubic(1, 0, 2, false), 6000, cubic(2, 0, 2, false)},
		{"the least but one", cubic(2, 0, 2, false), 6000, impl.Cubic{W: 2, Max: 2, Start: 6000, Thresh: 2, Begun: true}},
		{"the last but one", cubic(mostSegs-1, 0, mostSegs, false), 6000, cubic(mostSegs, 0, mostSegs, false)},
		{"the last but one, begun", cubic(mostSegs-1, 0, mostSegs, true), 6000, cubic(mostSegs, 0, mostSegs, true)},
		{"the last", cubic(mostSegs, 0, mostSegs, false), 6000, impl.Cubic{}},
		{"the last, begun", cubic(mostSegs, mostSegs, mostSegs, true), 6000, impl.Cubic{}},
		{"the last, above Thresh", cubic(mostSegs, mostSegs, 2, true), 10000, impl.Cubic{}},
	})
}

// Promise 11: without Begun, with Max below W, at W and above it; K and Start are new, whatever they were.
func TestCurvesBegin(t *testing.T) {
	fresh := func(w, height int) impl.Cubic {
		return impl.Cubic{W: w, Max: height, K: 777, Start: 90000, Thresh: 70}
	}
	begun := func(w, height, k, now int) impl.Cubic {
		return impl.Cubic{W: w, Max: height, K: k, Start: now, Thresh: 70, Begun: true}
	}
	checkGrowths(t, []cubicCase{
		{"no height", fresh(80, 0), 500, begun(80, 80, 0, 500)}, {"one below W", fresh(80, 79), 500, begun(80, 80, 0, 500)},
		{"at W", fresh(80, 80), 500, begun(80, 80, 0, 500)}, {"one above W", fresh(80, 81), 500, begun(81, 81, 1357, 500)}, {"two above W", fresh(80, 82), 500, begun(81, 82, 1709, 500)},
		{"above W", fresh(70, 100), 500, begun(71, 100, 4217, 500)}, {"above W, a whole root", fresh(80, 130), 500, begun(80, 130, 5000, 500)}, {"far above W", fresh(80, 480), 500, begun(80, 480, 10000, 500)},
		{"the first time", fresh(80, 130), 0, begun(80, 130, 5000, 0)}, {"the last time", fresh(80, 130), lastMs, begun(80, 130, 5000, lastMs)}, {"at the old Start", fresh(80, 130), 90000, begun(80, 130, 5000, 90000)},
		{"the greatest height", fresh(64496, mostSegs), 500, begun(64514, mostSegs, 134996, 500)},
		{"the last but one", fresh(mostSegs-1, 0), 500, begun(mostSegs-1, mostSegs-1, 0, 500)}, {"the last but one, one above", fresh(mostSegs-1, mostSegs), 500, begun(mostSegs, mostSegs, 1357, 500)},
		{"the last", fresh(mostSegs, 0), 500, impl.Cubic{}}, {"the last, at its height", fresh(mostSegs, mostSegs), 500, impl.Cubic{}},
	})
}

// Promise 11: the curve below W, at it, one above; at W and half of W + 1, one below and one above; far above; odd windows and even ones, from 2 on (one segment is below every Thresh); MaxSegs is the end.
func TestGrowthAlongTheCurve(t *testing.T) {
	for _, c := range []struct{ w, curve, want int }{
		{100, 0, 100}, {100, 99, 100}, {100, 100, 100}, {100, 101, 101}, {100, 120, 120}, {100, 149, 149}, {100, 150, 150}, {100, 151, 150}, {100, 152, 150}, {100, 5000, 150},
		{101, 100, 101}, {101, 101, 101}, {101, 102, 102}, {101, 151, 151}, {101, 152, 152}, {101, 153, 152}, {101, 5000, 152},
		{66, 98, 98}, {66, 99, 99}, {66, 100, 99}, {67, 100, 100}, {67, 101, 101}, {67, 102, 101},
		{2, 1, 2}, {2, 2, 2}, {2, 3, 3}, {2, 4, 3}, {3, 4, 4}, {3, 5, 5}, {3, 6, 5}, {4, 6, 6}, {4, 7, 6}, {5, 8, 8}, {5, 9, 8},
		{mostSegs - 1, 0, mostSegs - 1}, {mostSegs - 1, mostSegs - 2, mostSegs - 1}, {mostSegs - 1, mostSegs - 1, mostSegs - 1}, {mostSegs - 1, mostSegs, mostSegs}, {mostSegs - 2, mostSegs - 1, mostSegs - 1}, {mostSegs - 2, mostSegs, mostSegs},
		{699050, mostSegs - 1, mostSegs - 1}, {699050, mostSegs, mostSegs - 1}, {699051, mostSegs, mostSegs}, {699049, mostSegs, 1048574}, {700000, mostSegs, mostSegs},
	} {
		at := impl.Cubic{W: c.w, Max: c.curve, K: 5000, Start: 300, Thresh: c.w, Begun: true}
		want := at
		want.W = c.want
		checkGrowths(t, []cubicCase{{"at its height", at, 5300, want}})
	}
}

// Promise 11: one Begun, at several times: ahead of k, at it and behind it, and at the end of its time, with Max below W, at W and above it.
func TestGrowthInTime(t *testing.T) {
	for _, c := range []struct{ w, height, at, want int }{
		{70, 120, 0, 70}, {70, 120, 1, 71}, {70, 120, 4999, 105}, {70, 120, 5000, 105}, {100, 120, 0, 100}, {100, 120, 1000, 100}, {100, 120, 2000, 110}, {100, 120, 3642, 119}, {100, 120, 3643, 120},
		{119, 120, 3642, 119}, {119, 120, 3643, 120}, {120, 120, 0, 120}, {120, 120, 4999, 120}, {120, 120, 5000, 120}, {120, 120, 6357, 120}, {120, 120, 6358, 121}, {120, 120, 10000, 170}, {120, 120, 15000, 180}, {120, 120, mostMs, 180},
		{121, 120, 5000, 121}, {121, 120, 6358, 121}, {121, 120, 6710, 122}, {121, 120, 6709, 121}, {300, 120, 5000, 300}, {300, 120, 10000, 300}, {300, 120, 15000, 450}, {500, 120, 15000, 520},
		{mostSegs - 1, 120, 15000, mostSegs - 1}, {mostSegs - 1, 120, mostMs, mostSegs}, {mostSegs - 1, mostSegs, 4999, mostSegs}, {mostSegs - 1, mostSegs, 0, mostSegs - 1}, {mostSegs - 1, mostSegs, mostMs, mostSegs},
		{2, 0, 0, 2}, {2, 0, 5000, 2}, {2, 0, 6710, 2}, {2, 0, 7000, 3}, {2, 0, mostMs, 3},
	} {
		at := impl.Cubic{W: c.w, Max: c.height, K: 5000, Start: 300, Thresh: 2, Begun: true}
		want := at
		want.W = c.want
		checkGrowths(t, []cubicCase{{"in time", at, 300 + c.at, want}})
	}
}

// Promise 11: W at Max, one below and one above, W at 1, 2 and 3 and at its ends, with Begun and without it, by hand.
func TestLossesByHand(t *testing.T) {
	for _, c := range []struct{ w, height, now, less, top, thresh, k int }{
		{100, 99, 6000, 70, 100, 70, 4217}, {100, 100, 6000, 70, 100, 70, 4217}, {100, 101, 6000, 70, 85, 70, 3347}, {99, 100, 6000, 69, 84, 69, 3347}, {101, 100, 6000, 70, 101, 70, 4263},
		{100, 0, 6000, 70, 100, 70, 4217}, {100, mostSegs, 6000, 70, 85, 70, 3347}, {70, 100, 6000, 49, 59, 49, 2924}, {105, 105, 6000, 73, 105, 73, 4308}, {110, 110, 6000, 77, 110, 77, 4353},
		{1, 0, 6000, 1, 1, 2, 0}, {1, 1, 6000, 1, 1, 2, 0}, {1, 2, 6000, 1, 0, 2, 0}, {1, mostSegs, 6000, 1, 0, 2, 0},
		{2, 1, 6000, 1, 2, 2, 1357}, {2, 2, 6000, 1, 2, 2, 1357}, {2, 3, 6000, 1, 1, 2, 0}, {2, 0, 6000, 1, 2, 2, 1357},
		{3, 2, 6000, 2, 3, 2, 1357}, {3, 3, 6000, 2, 3, 2, 1357}, {3, 4, 6000, 2, 2, 2, 0}, {4, 4, 6000, 2, 4, 2, 1709}, {4, 5, 6000, 2, 3, 2, 1357}, {5, 5, 6000, 3, 5, 3, 1709}, {10, 10, 6000, 7, 10, 7, 1957}, {20, 21, 6000, 14, 17, 14, 1957},
		{mostSegs, mostSegs, 6000, 734003, mostSegs, 734003, 92303}, {mostSegs, mostSegs - 1, 6000, 734003, mostSegs, 734003, 92303}, {mostSegs - 1, mostSegs, 6000, 734002, 891288, 734002, 73261}, {mostSegs - 1, mostSegs - 1, 6000, 734002, mostSegs - 1, 734002, 92303}, {mostSegs, 0, 6000, 734003, mostSegs, 734003, 92303},
		{100, 100, 5000, 70, 100, 70, 4217}, {100, 100, 5000 + mostMs, 70, 100, 70, 4217},
	} {
		want := impl.Cubic{W: c.less, Max: c.top, K: c.k, Start: c.now, Thresh: c.thresh, Begun: true}
		for _, thresh := range []int{2, c.w + 1, mostSegs} {
			x := impl.Cubic{W: c.w, Max: c.height, K: 777, Start: 5000, Thresh: min(thresh, mostSegs)}
			for _, begun := range []bool{false, true} {
				x.Begun = begun
				if got := checkLost(t, x, c.now); got != want {
					t.Errorf("CubicLoss(%+v, %d) = %+v, want %+v", x, c.now, got, want)
				}
			}
		}
	}
}

// Promise 11: behind a loss each window is seven tenths, and the curve goes from there to the height that it had, or to 17 parts of 20 of it.
func TestLossesOfAllWindows(t *testing.T) {
	for w := 1; w <= mostSegs; w++ {
		for _, height := range [...]int{w - 1, w, min(w+1, mostSegs)} {
			got, ok := impl.CubicLoss(impl.Cubic{W: w, Max: height, Thresh: 2}, 7)
			top := w
			if w < height {
				top = w * 17 / 20
			}
			if want := max(w*7/10, 1); !ok || got.W != want || got.Max != top || got.Thresh != max(want, 2) || got.K != impl.CubicK(top, want) || got.Start != 7 || !got.Begun {
				t.Fatalf("a window of %d with a height of %d: %+v, %v", w, height, got, ok)
			}
		}
	}
}

// Promise 11: a window of any size grows by no more than a half and one, and where the curve is high enough, by half of W + 1.
func TestGrowthOfAllWindows(t *testing.T) {
	for w := 2; w < mostSegs; w++ {
		got, ok := impl.CubicGrow(impl.Cubic{W: w, Max: mostSegs, Thresh: 2, Begun: true}, mostMs)
		if want := min(w+(w+1)/2, mostSegs); !ok || got.W != want {
			t.Fatalf("a window of %d grows to %d, want %d", w, got.W, want)
		}
	}
}

// anyCubic makes ones of all sizes, most of their fields near the edges of others.
func anyCubic(d *dice) impl.Cubic {
	w := brought(d.one(1, 2, 3, 1+d.below(200), 1+d.below(200), 1+d.below(mostSegs), mostSegs-d.below(3)), 1, mostSegs)
	c := impl.Cubic{W: w, Begun: d.below(3) > 0}
	c.Max = brought(d.one(0, w-1, w, w+1, w+d.below(w+1), d.below(2*w), d.below(mostSegs+1), mostSegs-d.below(2)), 0, mostSegs)
	c.K = brought(d.one(0, 1, 5000, d.below(10000), d.below(mostK+1), mostK-d.below(2), curveRoot(c.Max, w), curveRoot(c.Max, w*7/10)), 0, mostK)
	c.Start = brought(d.one(0, d.below(10000), d.below(lastMs+1), lastMs-mostMs+d.below(5)-2, lastMs-d.below(3)), 0, lastMs)
	c.Thresh = brought(d.one(2, w-1, w, w, w/2, w+1, mostSegs), 2, mostSegs)
	return c
}

// anyNow is mostly a time that c may be asked at.
func anyNow(d *dice, c impl.Cubic) int {
	list := nowsAround(c)
	return d.one(c.Start, c.Start+c.K+d.below(4001)-2000, c.Start+d.below(2*c.K+1), c.Start+d.below(mostMs+1), list[d.below(len(list))])
}

// Promise 11: ones of all forms, at times of all kinds.
func TestCubicsOfAllForms(t *testing.T) {
	d := newDice()
	kinds := map[string]int{}
	for range 200000 {
		c := anyCubic(d)
		now := anyNow(d, c)
		grown := checkGrown(t, c, now)
		lost := checkLost(t, c, now)
		if t.Failed() {
			t.FailNow()
		}
		curve := curveAt(grown.Max, grown.K, now-grown.Start)
		high := c.W + (c.W+1)/2
		refused := grown == (impl.Cubic{})
		along := !refused && c.W >= c.Thresh
		for kind, is := range map[string]bool{
			"refused": refused && c.W < mostSegs, "no room": refused && lost.Begun, "below Thresh": !refused && !along, "begins": along && !c.Begun,
			"a low curve": along && curve < c.W, "at the curve": along && curve == c.W, "up to the curve": along && curve > c.W && curve <= high && curve <= mostSegs, "a high curve": along && curve > high && high < mostSegs, "up to the end": along && curve > mostSegs && high > mostSegs,
			"a loss": lost.Begun && c.W >= c.Max, "a loss below Max": lost.Begun && c.W < c.Max,
		} {
			if is {
				kinds[kind]++
			}
		}
	}
	if len(kinds) != 11 {
		t.Error("one kind is missing:", kinds)
	}
	for kind, count := range kinds {
		if count < 300 {
			t.Error("too few of one kind:", kind, count)
		}
	}
}

// Promise 11: one field is changed, and mostly no longer as it should be then.
func TestWrongedCubics(t *testing.T) {
	d := newDice()
	count := [2]int{}
	for range 20000 {
		c := anyCubic(d)
		fields := []*int{&c.W, &c.Max, &c.K, &c.Start, &c.Thresh}
		*fields[d.below(len(fields))] = d.one(-1, 0, 1, 2, mostK, mostK+1, mostSegs, mostSegs+1, lastMs, lastMs+1, math.MaxInt, math.MinInt)
		if cubicFits(c) {
			count[0]++
			checkCubic(t, c, "still as it should be")
		} else {
			count[1]++
			checkNoCubic(t, c, "no longer as it should be")
		}
		if t.Failed() {
			t.FailNow()
		}
	}
	if count[0] < 1000 || count[1] < 1000 {
		t.Error("too few of one kind:", count)
	}
}

// Promise 11: long ways from CubicNew on, with losses now and then, each step held against all sentences.
func TestLongWaysOfCubics(t *testing.T) {
	d := newDice()
	for _, w := range []int{1, 2, 10, 100, 40000, mostSegs} {
		c, _ := impl.CubicNew(w)
		now, losses, tops := 0, 0, 0
		for range 30000 {
			now += d.one(0, 1, 10, d.below(200), d.below(200), d.below(3000))
			if d.below(100) == 0 || c.W == mostSegs || c.W > 200000 && d.below(20) == 0 {
				c = checkLost(t, c, now)
				losses++
			} else {
				c = checkGrown(t, c, now)
			}
			if t.Failed() || !impl.CubicOk(c) {
				t.Fatalf("from %d on, at %d: %+v", w, now, c)
			}
			if c.Begun && c.W == c.Max {
				tops++
			}
		}
		if losses < 200 || tops < 100 {
			t.Errorf("from %d on: %d losses, %d times at the height", w, losses, tops)
		}
	}
}

// Promise 11: behind a loss a window that grows at each moment follows its curve up to its height, and past it.
func TestBackToTheHeight(t *testing.T) {
	c, _ := impl.CubicNew(100)
	c = checkLost(t, c, 500)
	for at := range 20001 {
		was := c.W
		c = checkGrown(t, c, 500+at)
		if curve := impl.CubicW(100, 4217, at); c.W != max(curve, 70) || c.W < was || c.Max != 100 || c.Start != 500 {
			t.Fatalf("at %d: %+v, the curve is at %d", at, c, curve)
		}
	}
	if c.W != 1672 {
		t.Errorf("at the end: %+v", c)
	}
}
