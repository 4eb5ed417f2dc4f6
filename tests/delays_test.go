package tests

import (
	"math"
	"testing"

	"loop.example/g00453/impl"
)

const pieTarget = 1000000000
const pieDelay = 10000000000
const pieBurst = 150000000

type pieField struct {
	name        string
	least, most int
	of          func(p *impl.Pie) *int
}

func pieFields() []pieField {
	return []pieField{
		{"Target", 1, 1000000000, func(p *impl.Pie) *int { return &p.Target }},
		{"Prob", 0, 2147483648, func(p *impl.Pie) *int { return &p.Prob }},
		{"Old", 0, 10000000000, func(p *impl.Pie) *int { return &p.Old }},
		{"Burst", 0, 150000000, func(p *impl.Pie) *int { return &p.Burst }},
	}
}

func ordinaryPie() impl.Pie {
	return impl.Pie{Target: 15000000, Prob: 200000000, Old: 20000000}
}

// wrongPies has those of which one field is not as it should be.
func wrongPies() []impl.Pie {
	list := []impl.Pie{{}, {Target: -1, Prob: -1, Old: -1, Burst: -1}, {Prob: impl.Full, Old: pieDelay}, {Target: math.MaxInt, Prob: math.MinInt}}
	for _, c := range pieFields() {
		for _, v := range append(wrongNumbers(c.most), c.least-1, c.least-2) {
			p := ordinaryPie()
			*c.of(&p) = v
			list = append(list, p)
		}
	}
	return list
}

// anyPie makes Pies of all sizes: chances around all steps, delays mostly near Target.
func anyPie(list []int) impl.Pie {
	p := impl.Pie{Target: 1 + list[0]&(1<<40-1)%pieTarget>>(list[1]&31), Burst: list[2] & (1<<40 - 1) % (pieBurst + 1)}
	p.Prob = list[3] & (1<<40 - 1) % (impl.Full + 1) >> (list[1] >> 5 & 31)
	p.Old = list[4] & (1<<40 - 1) % (pieDelay + 1)
	if list[1]>>10&3 > 0 {
		p.Old %= 2*p.Target + 1
	}
	if list[1]>>12&3 == 0 {
		p.Burst = 0
	}
	if list[1]>>14&3 == 0 {
		p.Old = 0
	}
	return p
}

func anyDelay(p impl.Pie, list []int) int {
	delay := list[0] & (1<<40 - 1) % (pieDelay + 1)
	switch list[1] & 7 {
	case 0:
		return 0
	case 1, 2, 3:
		return delay % (2*p.Target + 1)
	case 4:
		return 250000000 - 2 + delay&3
	}
	return delay >> (list[1] >> 3 & 31)
}

// gentleness is PieScale of a chance: each step from the greatest part on is 4 times the one ahead, but for the first one.
func gentleness(prob int) int {
	scale := 1
	for part := 10; part <= 1000000; part *= 10 {
		if prob < impl.Full/part {
			scale *= 4
			if part == 10 {
				scale = 2
			}
		}
	}
	return scale
}

// growth is the change of a chance ahead of the ends, by another road.
func growth(p impl.Pie, delay int) int {
	x := large(delay)
	x.Mul(x, large(11)).Sub(x, large(p.Target)).Sub(x, large(10*p.Old))
	x = cutOff(x.Mul(x, large(268)), large(1000*gentleness(p.Prob)))
	change := held(x)
	if p.Prob > 214748363 && change > 42949672 {
		change = 42949672
	}
	if delay >= 250000001 {
		change += 42949672
	}
	return change
}

// updated is PieUpdate of what is as it should be, by another road.
func updated(p impl.Pie, delay int) impl.Pie {
	prob := p.Prob + growth(p, delay)
	if delay+p.Old == 0 {
		prob = prob - held(cutOff(large(prob), large(64)))
	}
	if prob < 0 {
		prob = 0
	}
	if prob > impl.Full {
		prob = impl.Full
	}
	next := impl.Pie{Target: p.Target, Prob: prob, Old: delay}
	half := p.Target >> 1
	if prob == 0 && delay < half && p.Old < half {
		next.Burst = 150000000
	} else if p.Burst > 15000000 {
		next.Burst = p.Burst - 15000000
	}
	return next
}

func checkUpdate(t *testing.T, p impl.Pie, delay int) impl.Pie {
	t.Helper()
	want := updated(p, delay)
	got, ok := impl.PieUpdate(p, delay)
	if !ok || got != want || !impl.PieOk(got) {
		t.Errorf("PieUpdate(%v, %d) = %v, %v, want %v", p, delay, got, ok, want)
	}
	return got
}

// checkProb asks for a chance that is reckoned by hand.
func checkProb(t *testing.T, p impl.Pie, delay, want int) {
	t.Helper()
	if got := checkUpdate(t, p, delay); got.Prob != want {
		t.Errorf("PieUpdate(%v, %d) has the chance %d, want %d", p, delay, got.Prob, want)
	}
}

func checkNoUpdate(t *testing.T, p impl.Pie, delay int) {
	t.Helper()
	if got, ok := impl.PieUpdate(p, delay); ok || got != (impl.Pie{}) {
		t.Errorf("PieUpdate(%v, %d) = %v, %v", p, delay, got, ok)
	}
}

func checkPie(t *testing.T, p impl.Pie) {
	t.Helper()
	if !impl.PieOk(p) {
		t.Errorf("%v: it is not PieOk", p)
	}
	for _, delay := range []int{0, 1, 20000000, pieDelay} {
		checkUpdate(t, p, delay)
	}
	checkComing(t, p, 0, 3001, impl.EcNot)
	checkComing(t, p, 0, 3001, impl.EcZero)
}

func checkNoPie(t *testing.T, p impl.Pie) {
	t.Helper()
	if impl.PieOk(p) {
		t.Errorf("%v: it is PieOk", p)
	}
	for _, delay := range []int{0, 1, 20000000, pieDelay, -1} {
		checkNoUpdate(t, p, delay)
	}
	for _, bytes := range []int{0, 3000, 3001, -1} {
		checkNoComing(t, p, 0, bytes, impl.EcNot)
		checkNoComing(t, p, impl.Full-1, bytes, impl.EcOne)
	}
}

// Promise 7: each field at its least, at its most, one below and one above.
func TestPieFields(t *testing.T) {
	checkPie(t, ordinaryPie())
	checkPie(t, impl.Pie{Target: 1})
	checkPie(t, impl.Pie{Target: 1000000000, Prob: 2147483648, Old: 10000000000, Burst: 150000000})
	for _, c := range pieFields() {
		for _, v := range []int{c.least, c.least + 1, c.most - 1, c.most} {
			p := ordinaryPie()
			*c.of(&p) = v
			checkPie(t, p)
		}
	}
	for _, p := range wrongPies() {
		checkNoPie(t, p)
	}
}

func TestNewPies(t *testing.T) {
	for _, target := range []int{1, 2, 15000000, 999999999, 1000000000} {
		if p, ok := impl.PieNew(target); !ok || p != (impl.Pie{Target: target, Burst: 150000000}) || !impl.PieOk(p) {
			t.Errorf("PieNew(%d) = %v, %v", target, p, ok)
		}
	}
	for _, target := range append(wrongNumbers(1000000000), 0) {
		if p, ok := impl.PieNew(target); ok || p != (impl.Pie{}) {
			t.Errorf("PieNew(%d) = %v, %v", target, p, ok)
		}
	}
}

// Promise 7: a chance of 0 and of Full, one below and one above, and around each part of Full.
func TestScalesAroundTheirSteps(t *testing.T) {
	for _, c := range []struct{ prob, want int }{
		{-1, 0}, {0, 2048}, {1, 2048},
		{2146, 2048}, {2147, 512}, {2148, 512},
		{21473, 512}, {21474, 128}, {21475, 128},
		{214747, 128}, {214748, 32}, {214749, 32},
		{2147482, 32}, {2147483, 8}, {2147484, 8},
		{21474835, 8}, {21474836, 2}, {21474837, 2},
		{214748363, 2}, {214748364, 1}, {214748365, 1},
		{2147483647, 1}, {2147483648, 1}, {2147483649, 0},
	} {
		if got := impl.PieScale(c.prob); got != c.want {
			t.Errorf("PieScale(%d) = %d, want %d", c.prob, got, c.want)
		}
	}
	for _, prob := range wrongNumbers(impl.Full) {
		if got := impl.PieScale(prob); got != 0 {
			t.Errorf("PieScale(%d) = %d", prob, got)
		}
	}
	last := impl.PieScale(0)
	for prob := 0; prob <= impl.Full; prob += 1 + prob/97 {
		next := impl.PieScale(prob)
		if next != gentleness(prob) || next > last {
			t.Fatalf("PieScale(%d) = %d, ahead of it %d, want %d", prob, next, last, gentleness(prob))
		}
		last = next
	}
}

// Promise 7: a delay of 0, of 10000000000, one below and one above.
func TestDelaysAtTheirEnds(t *testing.T) {
	full := impl.Pie{Target: 1000000000, Prob: impl.Full, Old: pieDelay, Burst: pieBurst}
	for _, p := range []impl.Pie{ordinaryPie(), {Target: 1}, full} {
		for _, delay := range []int{0, 1, 9999999999, 10000000000} {
			checkUpdate(t, p, delay)
		}
		for _, delay := range wrongNumbers(10000000000) {
			checkNoUpdate(t, p, delay)
		}
	}
}

// Promise 7: a change is cut off towards 0 on both sides of it, by all steps.
func TestChangesAreCutOff(t *testing.T) {
	for _, c := range []struct{ prob, target, old, delay, want int }{
		{100, 1000000, 1000000, 1000000, 100},
		{100, 15000000, 20000000, 20000000, 754},               // 654.29
		{2147, 15000000, 20000000, 20000000, 2147 + 2617},      // 2617.18
		{2000, 25000000, 20000000, 20000000, 2000 - 654},       // -654.29
		{3000, 25000000, 20000000, 20000000, 3000 - 2617},      // -2617.18
		{30000, 25000000, 20000000, 20000000, 30000 - 10468},   // -10468.75
		{300000, 25000000, 20000000, 20000000, 300000 - 41875}, // -41875
		{300000, 25000001, 20000000, 20000000, 300000 - 41875}, // -41875.008
		{3000000, 15000000, 15000003, 15000000, 3000000 - 1},   // -1.005
		{3000000, 15000000, 15000002, 15000000, 3000000},       // -0.67
		{3000000, 15000000, 14999998, 15000000, 3000000},       // 0.67
		{3000000, 15000000, 14999997, 15000000, 3000000 + 1},   // 1.005
		{300000000, 15000000, 15000000, 14999997, 300000000 - 8},
		{300000000, 15000003, 15000000, 15000000, 300000000},     // -0.804
		{300000000, 15000004, 15000000, 15000000, 300000000 - 1}, // -1.072
		{300000000, 14999997, 15000000, 15000000, 300000000},     // 0.804
		{300000000, 14999996, 15000000, 15000000, 300000000 + 1}, // 1.072
		{100000000, 15000007, 15000000, 15000000, 100000000},     // -0.938
		{100000000, 15000008, 15000000, 15000000, 100000000 - 1}, // -1.072
	} {
		checkProb(t, impl.Pie{Target: c.target, Prob: c.prob, Old: c.old}, c.delay, c.want)
	}
}

// apartPie is one that a delay of 200000000 is apart from by this in all: above Target, and 10 times what it has grown by.
func apartPie(prob, apart int) impl.Pie {
	return impl.Pie{Target: 200000000 - apart%10, Prob: prob, Old: 200000000 - apart/10}
}

// Promise 7: a change of just Full / 50, one below and one above, at Full / 10 and one below it.
func TestChangesAtTheMost(t *testing.T) {
	const most = 42949672
	for _, c := range []struct{ prob, apart, want int }{
		{214748364, 160259970, most - 1}, {214748364, 160259971, most}, {214748364, 160259973, most}, // 42949672.764
		{214748364, 160259974, most}, {214748364, 160259978, most}, {214748364, 1000000000, most}, // one above and more
		{214748363, 320519940, most - 1}, {214748363, 320519941, most}, {214748363, 320519947, most}, // 42949672.898
		{214748363, 320519948, most + 1}, {214748363, 1000000000, 134000000},
		{214748365, 160259970, most - 1}, {214748365, 160259974, most}, {impl.Full - most, 160259974, most},
	} {
		checkProb(t, apartPie(c.prob, c.apart), 200000000, c.prob+c.want)
	}
	for apart := 160259000; apart < 160261000; apart++ {
		checkProb(t, apartPie(214748364, apart), 200000000, 214748364+min(most, apart*268/1000))
		checkProb(t, apartPie(214748363, 2*apart), 200000000, 214748363+apart*268/1000)
	}
}

// Promise 7: a fall has no such end, whatever the chance is.
func TestFallsAreNotHeld(t *testing.T) {
	checkProb(t, impl.Pie{Target: 15000000, Prob: 2000000000, Old: 300000000}, 15000000, 2000000000-763800000)
	checkProb(t, impl.Pie{Target: 15000000, Prob: 214748364, Old: 50000000}, 15000000, 214748364-93800000)
}

// Promise 7: a delay of 250000000 and of one more, with a change below and above the most.
func TestLongDelays(t *testing.T) {
	const more = 42949672
	for _, c := range []struct {
		p      impl.Pie
		before int
		behind int
	}{
		{impl.Pie{Target: 250000000, Prob: 500000000, Old: 250000000}, 500000000, 500000000 + more + 2}, // 2.948
		{impl.Pie{Target: 250000000, Prob: 500000000}, 500000000 + more, 500000000 + 2*more},
		{impl.Pie{Target: 250000000, Prob: 100000000}, 100000000 + 335000000, 100000000 + 335000001 + more},
		{impl.Pie{Target: 1000000000, Prob: 500000000, Old: 250000000}, 500000000 - 201000000, 500000000 - 200999997 + more},
		{impl.Pie{Target: 1000000000, Prob: 500000000, Old: 10000000000}, 0, 0},
	} {
		checkProb(t, c.p, 250000000, c.before)
		checkProb(t, c.p, 250000001, c.behind)
	}
}

// Promise 7: delay and Old both 0, and one of them alone; only then a 64th part is forgotten.
func TestChancesAreForgotten(t *testing.T) {
	for _, c := range []struct{ prob, target, old, delay, want int }{
		{64000, 15000000, 0, 0, 32085},
		{64000, 1, 0, 0, 63000}, {64000, 1, 0, 1, 64000}, {64000, 1, 1, 0, 64000}, {64000, 1, 1, 1, 64000},
		{63, 1, 0, 0, 63}, {64, 1, 0, 0, 63}, {127, 1, 0, 0, 126}, {128, 1, 0, 0, 126}, {0, 1, 0, 0, 0},
		{2147483648, 1, 0, 0, 2113929216}, {2147483648, 1, 0, 1, 2147483648},
		{2147483648, 1000000000, 0, 0, 1879483648 - 29366932},
		{1000000, 1000000000, 0, 0, 0}, {50000000, 100000000, 0, 0, 36600000 - 571875},
		{50000000, 100000000, 0, 1, 36600000 + 2}, {50000000, 100000000, 1, 0, 36600000 - 1},
	} {
		checkProb(t, impl.Pie{Target: c.target, Prob: c.prob, Old: c.old}, c.delay, c.want)
	}
}

// Promise 7: one that would fall below 0, and one that would go above Full, each by one, just not and by much.
func TestChancesAtTheirEnds(t *testing.T) {
	fall := impl.Pie{Target: 15000000, Old: 25000000}
	for _, c := range []struct{ prob, want int }{{0, 0}, {1, 0}, {2146, 0}, {13084, 0}, {13085, 0}, {13086, 1}, {21473, 8388}} {
		fall.Prob = c.prob
		if c.prob > 2146 { // 13085.9375 less
			fall.Old = 17500000
		}
		checkProb(t, fall, 15000000, c.want)
	}
	for prob := 130855; prob < 130862; prob++ { // 130859.375 less
		checkProb(t, impl.Pie{Target: 15000000, Prob: prob, Old: 21250000}, 15000000, max(0, prob-130859))
	}
	for prob := impl.Full - 1005; prob <= impl.Full; prob++ {
		checkProb(t, impl.Pie{Target: 15000000, Prob: prob, Old: 14999627}, 15000000, min(impl.Full, prob+999))
	}
	checkProb(t, impl.Pie{Target: 1, Prob: impl.Full}, pieDelay, impl.Full)
	checkProb(t, impl.Pie{Target: 1, Prob: 214748363}, pieDelay, impl.Full)
	checkProb(t, impl.Pie{Target: 1000000000, Prob: impl.Full, Old: pieDelay}, 0, 0)
	checkProb(t, impl.Pie{Target: 1000000000, Prob: 0, Old: pieDelay}, 0, 0)
	checkProb(t, impl.Pie{Target: 1000000000, Prob: 0, Old: 0}, pieDelay, 14263671+42949672)
}

// Promise 7: a Burst of 15000000, one below and one above, and at its ends.
func TestBurstsRunOut(t *testing.T) {
	for _, c := range []struct{ burst, want int }{
		{0, 0}, {1, 0}, {14999999, 0}, {15000000, 0}, {15000001, 1}, {30000000, 15000000}, {149999999, 134999999}, {150000000, 135000000},
	} {
		for _, prob := range []int{0, 1, 200000000, impl.Full} {
			for _, delay := range []int{7500000, 15000000, 20000000, pieDelay} {
				got := checkUpdate(t, impl.Pie{Target: 15000000, Prob: prob, Old: 20000000, Burst: c.burst}, delay)
				if got.Burst != c.want {
					t.Errorf("a Burst of %d goes to %d with a chance of %d and a delay of %d", c.burst, got.Burst, prob, delay)
				}
			}
		}
	}
}

// Promise 7: a chance of 0 with delay and Old at half of Target and one below; half of an odd one is cut off.
func TestBurstsBeginAnew(t *testing.T) {
	for _, target := range []int{1, 2, 3, 4, 5, 100, 101, 15000000, 15000001, 999999999, 1000000000} {
		half := target / 2
		for _, delay := range []int{0, half - 2, half - 1, half, half + 1} {
			for _, old := range []int{0, half - 2, half - 1, half, half + 1} {
				if delay < 0 || old < 0 {
					continue
				}
				for _, burst := range []int{0, 20000000, pieBurst} {
					got := checkUpdate(t, impl.Pie{Target: target, Old: old, Burst: burst}, delay)
					want := max(0, burst-15000000)
					if got.Prob == 0 && delay < half && old < half {
						want = 150000000
					}
					if got.Burst != want {
						t.Errorf("with a Target of %d, delays of %d and %d, a Burst of %d goes to %d", target, old, delay, burst, got.Burst)
					}
				}
			}
		}
	}
}

// Promise 7: it is the chance behind the change that must be 0 for a burst to begin anew.
func TestBurstsGoByTheNewChance(t *testing.T) {
	fallen := impl.Pie{Target: 15000000, Prob: 500, Old: 1000000, Burst: 20000000}
	if got := checkUpdate(t, fallen, 1000000); got.Prob != 0 || got.Burst != pieBurst {
		t.Error("a chance that has fallen to 0:", got)
	}
	risen := impl.Pie{Target: 15000000, Old: 1000000, Burst: 20000000}
	if got := checkUpdate(t, risen, 7000000); got.Prob == 0 || got.Burst != 5000000 {
		t.Error("a chance that has risen from 0:", got)
	}
	held := impl.Pie{Target: 15000000, Prob: 500000, Old: 1000000, Burst: 20000000}
	if got := checkUpdate(t, held, 1000000); got.Prob == 0 || got.Burst != 5000000 {
		t.Error("a chance that is above 0 all the time:", got)
	}
}

// Promise 7: whatever is told, chances stay in 0 .. Full, and a greater delay makes none that is less.
func TestGreaterDelaysMakeNoLessChances(t *testing.T) {
	list := noise(9 * 40000)
	none, full, some, same := 0, 0, 0, 0
	for i := 0; i < len(list); i += 9 {
		p := anyPie(list[i : i+5])
		less, more := anyDelay(p, list[i+5:i+7]), anyDelay(p, list[i+7:i+9])
		if less > more {
			less, more = more, less
		}
		before, behind := checkUpdate(t, p, less), checkUpdate(t, p, more)
		if less > 0 && before.Prob > behind.Prob {
			t.Errorf("%v: a delay of %d makes %d, one of %d only %d", p, less, before.Prob, more, behind.Prob)
		}
		switch {
		case behind.Prob == 0:
			none++
		case before.Prob == impl.Full || behind.Prob == impl.Full:
			full++
		case before.Prob == behind.Prob:
			same++
		default:
			some++
		}
		if t.Failed() {
			t.FailNow()
		}
	}
	if none < 1000 || full < 300 || some < 1000 || same < 300 {
		t.Error("too few of one kind:", none, full, some, same)
	}
}

// Promise 7: delays one by one around all edges, from 1 on.
func TestChancesGrowDelayByDelay(t *testing.T) {
	for _, p := range []impl.Pie{ordinaryPie(), {Target: 15000000, Prob: 214748364, Old: 249990000}, {Target: 15000000, Prob: 214748363, Old: 249990000}, {Target: 1, Prob: 2147}, {Target: 1, Prob: impl.Full - 50000000, Old: 1}} {
		for _, from := range []int{1, 14999000, 249999000, 266019640, pieDelay - 2000} {
			last := checkUpdate(t, p, from)
			for delay := from + 1; delay <= from+2000; delay++ {
				next := checkUpdate(t, p, delay)
				if next.Prob < last.Prob {
					t.Fatalf("%v: from a delay of %d on the chance goes from %d to %d", p, delay, last.Prob, next.Prob)
				}
				last = next
			}
		}
	}
}
