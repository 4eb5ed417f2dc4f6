package tests

import (
	"math"
	"testing"

	"loop.example/g00453/impl"
)

// coming is PieArrive of what is as it should be, by another road.
func coming(p impl.Pie, draw, bytes, ecn int) int {
	quick := p.Old+1 <= p.Target>>1 && p.Prob <= 429496728
	switch {
	case quick, p.Burst != 0, bytes < 3001, p.Prob <= draw:
		return 0
	case ecn >= 1 && p.Prob < 214748365:
		return 1
	}
	return 2
}

func checkComing(t *testing.T, p impl.Pie, draw, bytes, ecn int) {
	t.Helper()
	if got, want := impl.PieArrive(p, draw, bytes, ecn), coming(p, draw, bytes, ecn); got != want {
		t.Errorf("PieArrive(%v, %d, %d, %d) = %d, want %d", p, draw, bytes, ecn, got, want)
	}
}

func checkNoComing(t *testing.T, p impl.Pie, draw, bytes, ecn int) {
	t.Helper()
	if got := impl.PieArrive(p, draw, bytes, ecn); got != -1 {
		t.Errorf("PieArrive(%v, %d, %d, %d) = %d, want -1", p, draw, bytes, ecn, got)
	}
}

// checkArrival asks for an answer that is written down, for each ecn: the first one is EcNot's.
func checkArrival(t *testing.T, p impl.Pie, draw, bytes int, plain, marks int) {
	t.Helper()
	for ecn, want := range []int{plain, marks, marks, marks} {
		if got := impl.PieArrive(p, draw, bytes, ecn); got != want {
			t.Errorf("PieArrive(%v, %d, %d, %d) = %d, want %d", p, draw, bytes, ecn, got, want)
		}
		checkComing(t, p, draw, bytes, ecn)
	}
}

// hardPie hits whomever it can.
func hardPie() impl.Pie {
	return impl.Pie{Target: 15000000, Prob: impl.Full, Old: 20000000}
}

// Promise 7: who is hit is marked if it knows marks, else dropped; all are dropped above Full / 10.
func TestWhoIsHit(t *testing.T) {
	checkArrival(t, ordinaryPie(), 0, 5000, 2, 1)
	checkArrival(t, hardPie(), 0, 5000, 2, 2)
	p := ordinaryPie()
	for _, c := range []struct{ prob, plain, marks int }{
		{0, 0, 0}, {1, 2, 1}, {214748363, 2, 1}, {214748364, 2, 1}, {214748365, 2, 2}, {214748366, 2, 2},
		{429496728, 2, 2}, {429496729, 2, 2}, {impl.Full - 1, 2, 2}, {impl.Full, 2, 2},
	} {
		p.Prob = c.prob
		checkArrival(t, p, 0, 3001, c.plain, c.marks)
		checkArrival(t, p, 0, math.MaxInt, c.plain, c.marks)
	}
}

// Promise 7: draw at 0, at Full - 1, one below and one above.
func TestDrawsAtTheirEnds(t *testing.T) {
	for _, p := range []impl.Pie{ordinaryPie(), hardPie(), {Target: 15000000, Burst: 1}} {
		for ecn := range 4 {
			for _, draw := range []int{0, 1, impl.Full - 2, impl.Full - 1} {
				checkComing(t, p, draw, 5000, ecn)
			}
			for _, draw := range wrongNumbers(impl.Full - 1) {
				checkNoComing(t, p, draw, 5000, ecn)
				checkNoComing(t, p, draw, 0, ecn)
			}
		}
	}
	checkArrival(t, hardPie(), impl.Full-1, 5000, 2, 2)
	p := hardPie()
	p.Prob--
	checkArrival(t, p, impl.Full-2, 5000, 2, 2)
	checkArrival(t, p, impl.Full-1, 5000, 0, 0)
}

// Promise 7: draw at Prob and one below it: who has no draw below the chance is not hit.
func TestDrawsAtTheChance(t *testing.T) {
	for _, prob := range []int{1, 2, 1000, 2147, 200000000, 214748364, 214748365, 429496728, 429496729, 1000000000, impl.Full - 1} {
		p := ordinaryPie()
		p.Prob = prob
		marks := 1
		if prob > 214748364 {
			marks = 2
		}
		checkArrival(t, p, 0, 5000, 2, marks)
		checkArrival(t, p, prob-1, 5000, 2, marks)
		for _, draw := range []int{prob, prob + 1, impl.Full - 1} {
			if draw < impl.Full {
				checkArrival(t, p, draw, 5000, 0, 0)
			}
		}
	}
}

// Promise 7: bytes of 3000 and of 3001, at 0 and below it.
func TestShortQueues(t *testing.T) {
	for _, bytes := range []int{0, 1, 2999, 3000} {
		checkArrival(t, ordinaryPie(), 0, bytes, 0, 0)
		checkArrival(t, hardPie(), 0, bytes, 0, 0)
	}
	for _, bytes := range []int{3001, 3002, 1 << 32, 1<<32 + 1, math.MaxInt} {
		checkArrival(t, ordinaryPie(), 0, bytes, 2, 1)
		checkArrival(t, hardPie(), 0, bytes, 2, 2)
	}
	for _, bytes := range []int{-1, -2, -3000, -3001, -1 << 32, math.MinInt + 1, math.MinInt} {
		for ecn := range 4 {
			checkNoComing(t, ordinaryPie(), 0, bytes, ecn)
			checkNoComing(t, hardPie(), impl.Full-1, bytes, ecn)
			checkNoComing(t, impl.Pie{Target: 5, Burst: 5}, 0, bytes, ecn)
		}
	}
}

// Promise 7: nobody is hit in a burst, be it the last bit of one.
func TestNobodyIsHitInABurst(t *testing.T) {
	for _, burst := range []int{1, 2, 15000000, 149999999, 150000000} {
		for _, p := range []impl.Pie{ordinaryPie(), hardPie()} {
			p.Burst = burst
			for _, draw := range []int{0, 1, impl.Full - 1} {
				checkArrival(t, p, draw, 5000, 0, 0)
				checkArrival(t, p, draw, math.MaxInt, 0, 0)
			}
		}
	}
	p := hardPie()
	p.Burst = 15000001
	for i, want := range []int{0, 0, 2, 2} {
		if got := impl.PieArrive(p, 0, 5000, 0); got != want {
			t.Errorf("behind %d updates it is %d", i, got)
		}
		p, _ = impl.PieUpdate(p, pieDelay)
	}
}

// Promise 7: Prob at Full / 5 and one below, with Old at half of Target and one below.
func TestShortWaits(t *testing.T) {
	for _, target := range []int{1, 2, 3, 100, 101, 15000000, 15000001, 1000000000} {
		half := target / 2
		for _, old := range []int{0, half - 2, half - 1, half, half + 1, target, pieDelay} {
			if old < 0 {
				continue
			}
			for _, prob := range []int{1, 214748364, 214748365, 429496728, 429496729, 429496730, impl.Full} {
				p := impl.Pie{Target: target, Prob: prob, Old: old}
				plain, marks := 2, 2
				if prob <= 214748364 {
					marks = 1
				}
				if old < half && prob <= 429496728 {
					plain, marks = 0, 0
				}
				checkArrival(t, p, 0, 5000, plain, marks)
			}
		}
	}
}

// Promise 7: each ecn, one below and one above; one that is none counts even where all are let in.
func TestWrongEcns(t *testing.T) {
	for _, p := range []impl.Pie{ordinaryPie(), hardPie(), {Target: 15000000, Burst: 1}} {
		for _, ecn := range append(wrongNumbers(3), 256, 257) {
			checkNoComing(t, p, 0, 5000, ecn)
			checkNoComing(t, p, impl.Full-1, 0, ecn)
		}
		for ecn := range 4 {
			checkComing(t, p, 0, 5000, ecn)
		}
	}
}

func TestArrivalsOfAllForms(t *testing.T) {
	list := noise(9 * 60000)
	count := [3]int{}
	for i := 0; i < len(list); i += 9 {
		p := anyPie(list[i : i+5])
		draw := list[i+5] & (impl.Full - 1) >> (list[i+8] & 31)
		bytes := list[i+6] & math.MaxInt >> (list[i+8] >> 5 & 63)
		ecn := list[i+7] & 3
		checkComing(t, p, draw, bytes, ecn)
		got := impl.PieArrive(p, draw, bytes, ecn)
		if got > 0 && (p.Burst > 0 || bytes <= 3000 || draw >= p.Prob) {
			t.Errorf("PieArrive(%v, %d, %d, %d) = %d: it may not be hit", p, draw, bytes, ecn, got)
		}
		if t.Failed() {
			t.FailNow()
		}
		count[got]++
	}
	if count[0] < 1000 || count[1] < 1000 || count[2] < 1000 {
		t.Error("too few of one kind:", count)
	}
}

// Promise 7: a long time at one narrow place, whose delay swells and shrinks.
func TestChancesOneBehindTheOther(t *testing.T) {
	p, _ := impl.PieNew(15000000)
	delay, bursts, count := 0, 0, [3]int{}
	for i, x := range noise(60000) {
		load := 5000000 + i/2000%2*20000000 // the chance at which a delay stays is some 20 times that
		delay = min(pieDelay, max(0, delay+x&(1<<21-1)-1<<20+load-p.Prob/20))
		if i/6000%3 == 2 { // nobody waits
			delay = 0
		}
		p = checkUpdate(t, p, delay)
		if p.Burst > 0 {
			bursts++
		}
		draw, ecn := x>>22&(impl.Full-1), x>>53&3
		checkComing(t, p, draw, 5000, ecn)
		if t.Failed() {
			t.FailNow()
		}
		count[impl.PieArrive(p, draw, 5000, ecn)]++
	}
	if count[0] < 1000 || count[1] < 100 || count[2] < 100 || bursts < 100 {
		t.Error("too few of one kind:", count, bursts)
	}
}

// No function keeps anything: how many were hit ahead plays no part.
func TestPiesKeepNothing(t *testing.T) {
	for range 1000 {
		checkArrival(t, hardPie(), 0, 5000, 2, 2)
		checkArrival(t, ordinaryPie(), 0, 5000, 2, 1)
		checkArrival(t, ordinaryPie(), impl.Full-1, 5000, 0, 0)
		checkProb(t, impl.Pie{Target: 15000000, Prob: 64000}, 0, 32085)
		checkNoComing(t, impl.Pie{}, 0, 5000, 0)
	}
}
