package tests

import (
	"math"
	"math/big"
	"testing"

	"loop.example/g00453/impl"
)

const mostRtt = 60000000
const leastRto = 1000000

// ordinaryRtt has heard of several ways there and back, of some 400 thousandths of a second.
func ordinaryRtt() impl.Rtt {
	return impl.Rtt{Has: true, Mean: 400000, Var: 200000, Rto: 1200000}
}

// rttFits is RttOk by another road.
func rttFits(r impl.Rtt) bool {
	most := 0
	if r.Has {
		most = mostRtt
	}
	for _, x := range [][3]int{{0, r.Mean, most}, {0, r.Var, most}, {leastRto, r.Rto, mostRtt}} {
		if x[1] < x[0] || x[1] > x[2] {
			return false
		}
	}
	return true
}

// downwards is the greatest number that is not above n / parts; big.Int's Div goes so where parts is above 0.
func downwards(n *big.Int, parts int) *big.Int { return new(big.Int).Div(n, large(parts)) }

// sampledRtt is RttSample, field by field, with numbers of any size.
func sampledRtt(r impl.Rtt, us int) (impl.Rtt, bool) {
	if !rttFits(r) || !fits(us, 0, mostRtt) {
		return impl.Rtt{}, false
	}
	mean, spread := large(us), downwards(large(us), 2)
	if r.Has {
		off := new(big.Int).Sub(large(us), large(r.Mean))
		more := new(big.Int).Sub(new(big.Int).Abs(off), large(r.Var))
		spread = new(big.Int).Add(large(r.Var), downwards(more, 4))
		mean = new(big.Int).Add(large(r.Mean), downwards(off, 8))
	}
	after := impl.Rtt{Has: true, Mean: int(mean.Int64()), Var: int(spread.Int64())}
	after.Rto = brought(after.Mean+after.Var+after.Var+after.Var+after.Var, after.Mean+1000, math.MaxInt)
	after.Rto = brought(after.Rto, leastRto, mostRtt)
	return after, true
}

// checkSampled asks the promise itself too: Mean lies between what it was and what is told, and Rto is not below a second.
func checkSampled(t *testing.T, r impl.Rtt, us int) impl.Rtt {
	t.Helper()
	want, well := sampledRtt(r, us)
	got, ok := impl.RttSample(r, us)
	if got != want || ok != well {
		t.Errorf("RttSample(%+v, %d) = %+v, %v, want %+v, %v", r, us, got, ok, want, well)
	}
	if !ok {
		return got
	}
	if got.Mean < min(r.Mean, us) || got.Mean > max(r.Mean, us) {
		t.Errorf("RttSample(%+v, %d): a Mean of %d is not between both", r, us, got.Mean)
	}
	if got.Rto < 1000000 || !impl.RttOk(got) || !got.Has {
		t.Errorf("RttSample(%+v, %d) = %+v", r, us, got)
	}
	return got
}

// checkBackedOff asks for twice the Rto, and for all else as it was.
func checkBackedOff(t *testing.T, r impl.Rtt) impl.Rtt {
	t.Helper()
	want, well := impl.Rtt{}, rttFits(r)
	if well {
		want = impl.Rtt{Has: r.Has, Mean: r.Mean, Var: r.Var, Rto: mostRtt}
		if mostRtt-r.Rto > r.Rto {
			want.Rto = r.Rto + r.Rto
		}
	}
	got, ok := impl.RttBackoff(r)
	if got != want || ok != well {
		t.Errorf("RttBackoff(%+v) = %+v, %v, want %+v, %v", r, got, ok, want, well)
	}
	if ok && (got.Rto < r.Rto || got.Rto < 1000000 || !impl.RttOk(got)) {
		t.Errorf("RttBackoff(%+v) = %+v", r, got)
	}
	return got
}

// samplesAround has times at the edges, and wrong ones.
func samplesAround(r impl.Rtt) []int {
	list := append(wrongNumbers(mostRtt), 0, 1, 999999, 1000000, mostRtt-1, mostRtt)
	for _, at := range []int{r.Mean, r.Mean + r.Var, r.Mean - r.Var, r.Rto} {
		list = append(list, at-8, at-1, at, at+1, at+8)
	}
	return list
}

func checkRtt(t *testing.T, r impl.Rtt, name string) {
	t.Helper()
	if !impl.RttOk(r) || !rttFits(r) {
		t.Errorf("%s: it is not RttOk: %+v", name, r)
	}
	for _, us := range samplesAround(r) {
		checkSampled(t, r, us)
	}
	checkBackedOff(t, r)
}

// checkNoRtt asks all that go by RttOk for their fixed answers.
func checkNoRtt(t *testing.T, r impl.Rtt, name string) {
	t.Helper()
	if impl.RttOk(r) || rttFits(r) {
		t.Errorf("%s: it is RttOk: %+v", name, r)
	}
	for _, us := range samplesAround(r) {
		if got, ok := impl.RttSample(r, us); ok || got != (impl.Rtt{}) {
			t.Errorf("%s: RttSample(%+v, %d) = %+v, %v", name, r, us, got, ok)
		}
	}
	if got, ok := impl.RttBackoff(r); ok || got != (impl.Rtt{}) {
		t.Errorf("%s: RttBackoff(%+v) = %+v, %v", name, r, got, ok)
	}
}

// rttCase tells by hand whether r is as it should be.
type rttCase struct {
	name string
	r    impl.Rtt
	well bool
}

func checkRtts(t *testing.T, list []rttCase) {
	t.Helper()
	for _, c := range list {
		if c.well {
			checkRtt(t, c.r, c.name)
		} else {
			checkNoRtt(t, c.r, c.name)
		}
	}
}

func TestWaitConstants(t *testing.T) {
	if impl.MaxRtt != 60000000 || impl.MaxSpans != 8 {
		t.Error(impl.MaxRtt, impl.MaxSpans)
	}
}

// Promise 12: Mean and Var at 0 and at MaxRtt, Rto at 1000000 and at MaxRtt, each one below and one above.
func TestRttNumbers(t *testing.T) {
	rtt := func(mean, spread, rto int) impl.Rtt { return impl.Rtt{Has: true, Mean: mean, Var: spread, Rto: rto} }
	checkRtts(t, []rttCase{
		{"ordinary", ordinaryRtt(), true}, {"the least", rtt(0, 0, 1000000), true}, {"the most", rtt(mostRtt, mostRtt, mostRtt), true},
		{"Mean below 0", rtt(-1, 5, 2000000), false}, {"Mean at 0", rtt(0, 5, 2000000), true}, {"Mean at 1", rtt(1, 5, 2000000), true},
		{"Mean below its end", rtt(59999999, 5, 2000000), true}, {"Mean at its end", rtt(60000000, 5, 2000000), true}, {"Mean above its end", rtt(60000001, 5, 2000000), false},
		{"Var below 0", rtt(5, -1, 2000000), false}, {"Var at 0", rtt(5, 0, 2000000), true}, {"Var at 1", rtt(5, 1, 2000000), true},
		{"Var below its end", rtt(5, 59999999, 2000000), true}, {"Var at its end", rtt(5, 60000000, 2000000), true}, {"Var above its end", rtt(5, 60000001, 2000000), false},
		{"Rto below a second", rtt(5, 6, 999999), false}, {"Rto of a second", rtt(5, 6, 1000000), true}, {"Rto above a second", rtt(5, 6, 1000001), true},
		{"Rto below its end", rtt(5, 6, 59999999), true}, {"Rto at its end", rtt(5, 6, 60000000), true}, {"Rto above its end", rtt(5, 6, 60000001), false},
		{"Rto of 0", rtt(5, 6, 0), false}, {"Rto below 0", rtt(5, 6, -1000000), false}, {"Rto that is not reckoned from the others", rtt(50000000, 6, 1000000), true},
		{"the zero value", impl.Rtt{}, false}, {"no Rto, with Has", impl.Rtt{Has: true}, false},
	})
	for _, wrong := range wrongNumbers(mostRtt) {
		checkRtts(t, []rttCase{{"Mean", rtt(wrong, 5, 2000000), false}, {"Var", rtt(5, wrong, 2000000), false}, {"Rto", rtt(5, 6, wrong), false}, {"Rto alone", impl.Rtt{Rto: wrong}, false}})
	}
}

// Promise 12: without Has, Mean and Var are 0.
func TestRttsWithoutHas(t *testing.T) {
	rtt := func(mean, spread int) impl.Rtt { return impl.Rtt{Mean: mean, Var: spread, Rto: 2000000} }
	checkRtts(t, []rttCase{
		{"both 0", rtt(0, 0), true}, {"Mean of 1", rtt(1, 0), false}, {"Mean of -1", rtt(-1, 0), false}, {"Var of 1", rtt(0, 1), false}, {"Var of -1", rtt(0, -1), false}, {"both 1", rtt(1, 1), false}, {"one against the other", rtt(1, -1), false},
		{"Mean at its end", rtt(mostRtt, 0), false}, {"Var at its end", rtt(0, mostRtt), false}, {"both at their ends", rtt(mostRtt, mostRtt), false}, {"an ordinary one", rtt(400000, 200000), false},
		{"the least Rto", impl.Rtt{Rto: 1000000}, true}, {"Rto above a second", impl.Rtt{Rto: 1000001}, true}, {"Rto below a second", impl.Rtt{Rto: 999999}, false},
		{"Rto below its end", impl.Rtt{Rto: 59999999}, true}, {"Rto at its end", impl.Rtt{Rto: 60000000}, true}, {"Rto above its end", impl.Rtt{Rto: 60000001}, false},
	})
}

// Promise 12: a new one waits for a second, and has heard of nothing.
func TestNewRtts(t *testing.T) {
	if got := impl.RttNew(); got != (impl.Rtt{Rto: 1000000}) {
		t.Errorf("RttNew() = %+v", got)
	}
	checkRtt(t, impl.RttNew(), "a new one")
}

// Promise 12: the first sample is Mean itself, and Var half of it, whatever Rto was; by hand.
func TestFirstSamples(t *testing.T) {
	for _, c := range []struct{ us, spread, rto int }{
		{0, 0, 1000000}, {1, 0, 1000000}, {2, 1, 1000000}, {3, 1, 1000000}, {499, 249, 1000000}, {500, 250, 1000000}, {501, 250, 1000000},
		{333332, 166666, 1000000}, {333333, 166666, 1000000}, {333334, 166667, 1000002}, {333335, 166667, 1000003}, {400000, 200000, 1200000}, {400001, 200000, 1200001}, {1000000, 500000, 3000000},
		{19999999, 9999999, 59999995}, {20000000, 10000000, 60000000}, {20000001, 10000000, 60000000}, {20000002, 10000001, 60000000}, {59999999, 29999999, 60000000}, {60000000, 30000000, 60000000},
	} {
		want := impl.Rtt{Has: true, Mean: c.us, Var: c.spread, Rto: c.rto}
		for _, rto := range []int{1000000, 1000001, 3000000, mostRtt} {
			if got := checkSampled(t, impl.Rtt{Rto: rto}, c.us); got != want {
				t.Errorf("the first sample, %d: %+v, want %+v", c.us, got, want)
			}
		}
	}
}

// sampleCase tells by hand what us makes of Mean and Var.
type sampleCase struct{ mean, spread, us, meanBehind, spreadBehind, rto int }

func checkSamples(t *testing.T, list []sampleCase) {
	t.Helper()
	for _, c := range list {
		want := impl.Rtt{Has: true, Mean: c.meanBehind, Var: c.spreadBehind, Rto: c.rto}
		for _, rto := range []int{1000000, 2500000, mostRtt} {
			r := impl.Rtt{Has: true, Mean: c.mean, Var: c.spread, Rto: rto}
			if got := checkSampled(t, r, c.us); got != want {
				t.Errorf("RttSample(%+v, %d) = %+v, want %+v", r, c.us, got, want)
			}
		}
	}
}

// Promise 12: ordinary samples, and us at Mean, one below and one above.
func TestSamplesByHand(t *testing.T) {
	checkSamples(t, []sampleCase{
		{400000, 200000, 480000, 410000, 170000, 1090000}, {410000, 170000, 320000, 398750, 150000, 1000000}, {100000, 5000, 130000, 103750, 11250, 1000000}, {2000000, 300000, 2000000, 2000000, 225000, 2900000},
		{2000000, 400, 2000000, 2000000, 300, 2001200}, {2000000, 400, 1999999, 1999999, 300, 2001199}, {2000000, 400, 2000001, 2000000, 300, 2001200},
		{2000000, 0, 2000000, 2000000, 0, 2001000}, {2000000, 0, 1999999, 1999999, 0, 2000999}, {2000000, 0, 2000001, 2000000, 0, 2001000},
		{2000000, 1, 2000000, 2000000, 0, 2001000}, {2000000, 1, 1999999, 1999999, 1, 2000999}, {2000000, 1, 2000001, 2000000, 1, 2001000},
	})
}

// Promise 12: eighth parts that are whole and that are not, above 0 and below it: downwards.
func TestEighthParts(t *testing.T) {
	checkSamples(t, []sampleCase{
		{2000000, 400, 1999983, 1999997, 304, 2001213}, {2000000, 400, 1999984, 1999998, 304, 2001214}, {2000000, 400, 1999985, 1999998, 303, 2001210}, {2000000, 400, 1999991, 1999998, 302, 2001206}, {2000000, 400, 1999992, 1999999, 302, 2001207}, {2000000, 400, 1999993, 1999999, 301, 2001203},
		{2000000, 400, 2000007, 2000000, 301, 2001204}, {2000000, 400, 2000008, 2000001, 302, 2001209}, {2000000, 400, 2000009, 2000001, 302, 2001209}, {2000000, 400, 2000015, 2000001, 303, 2001213}, {2000000, 400, 2000016, 2000002, 304, 2001218}, {2000000, 400, 2000017, 2000002, 304, 2001218},
	})
}

// Promise 12: fourth parts that are whole and that are not, above 0 and below it: downwards; us lies on both sides of Mean.
func TestFourthParts(t *testing.T) {
	checkSamples(t, []sampleCase{
		{2000000, 3, 2000000, 2000000, 2, 2001000}, {2000000, 4, 2000000, 2000000, 3, 2001000}, {2000000, 5, 2000000, 2000000, 3, 2001000}, {2000000, 7, 2000000, 2000000, 5, 2001000}, {2000000, 8, 2000000, 2000000, 6, 2001000}, {2000000, 9, 2000000, 2000000, 6, 2001000},
		{2000000, 400, 2000395, 2000049, 398, 2001641}, {2000000, 400, 2000396, 2000049, 399, 2001645}, {2000000, 400, 2000397, 2000049, 399, 2001645}, {2000000, 400, 2000399, 2000049, 399, 2001645}, {2000000, 400, 2000400, 2000050, 400, 2001650}, {2000000, 400, 2000401, 2000050, 400, 2001650}, {2000000, 400, 2000403, 2000050, 400, 2001650}, {2000000, 400, 2000404, 2000050, 401, 2001654}, {2000000, 400, 2000405, 2000050, 401, 2001654},
		{2000000, 400, 1999605, 1999950, 398, 2001542}, {2000000, 400, 1999604, 1999950, 399, 2001546}, {2000000, 400, 1999603, 1999950, 399, 2001546}, {2000000, 400, 1999601, 1999950, 399, 2001546}, {2000000, 400, 1999600, 1999950, 400, 2001550}, {2000000, 400, 1999599, 1999949, 400, 2001549}, {2000000, 400, 1999597, 1999949, 400, 2001549}, {2000000, 400, 1999596, 1999949, 401, 2001553}, {2000000, 400, 1999595, 1999949, 401, 2001553},
	})
}

// Promise 12: 4 Var at 1000, below it and above it; an Rto at 1000000 and at MaxRtt, and one that is brought there.
func TestRtosAtTheirEnds(t *testing.T) {
	checkSamples(t, []sampleCase{
		{2000000, 331, 2000000, 2000000, 248, 2001000}, {2000000, 332, 2000000, 2000000, 249, 2001000}, {2000000, 333, 2000000, 2000000, 249, 2001000}, {2000000, 334, 2000000, 2000000, 250, 2001000}, {2000000, 335, 2000000, 2000000, 251, 2001004}, {2000000, 336, 2000000, 2000000, 252, 2001008},
		{998999, 0, 998999, 998999, 0, 1000000}, {999000, 0, 999000, 999000, 0, 1000000}, {999001, 0, 999001, 999001, 0, 1000001}, {999999, 0, 999999, 999999, 0, 1000999}, {1000000, 0, 1000000, 1000000, 0, 1001000},
		{996000, 1333, 996000, 996000, 999, 1000000}, {996000, 1334, 996000, 996000, 1000, 1000000}, {996000, 1335, 996000, 996000, 1001, 1000004}, {0, 0, 0, 0, 0, 1000000}, {1, 0, 1, 1, 0, 1000000},
		{59998999, 0, 59998999, 59998999, 0, 59999999}, {59999000, 0, 59999000, 59999000, 0, 60000000}, {59999001, 0, 59999001, 59999001, 0, 60000000}, {60000000, 0, 60000000, 60000000, 0, 60000000},
		{20000000, 13333333, 20000000, 20000000, 9999999, 59999996}, {20000000, 13333334, 20000000, 20000000, 10000000, 60000000}, {20000000, 13333335, 20000000, 20000000, 10000001, 60000000},
	})
}

// Promise 12: Mean, Var and us at 0 and at MaxRtt, and near them.
func TestSamplesAtTheEnds(t *testing.T) {
	checkSamples(t, []sampleCase{
		{60000000, 60000000, 60000000, 60000000, 45000000, 60000000}, {60000000, 60000000, 0, 52500000, 60000000, 60000000}, {0, 60000000, 60000000, 7500000, 60000000, 60000000}, {0, 60000000, 0, 0, 45000000, 60000000},
		{60000000, 0, 0, 52500000, 15000000, 60000000}, {0, 0, 60000000, 7500000, 15000000, 60000000}, {60000000, 0, 59999999, 59999999, 0, 60000000}, {59999999, 0, 60000000, 59999999, 0, 60000000}, {60000000, 1, 60000000, 60000000, 0, 60000000},
		{0, 0, 1, 0, 0, 1000000}, {1, 0, 0, 0, 0, 1000000}, {1, 1, 0, 0, 1, 1000000}, {0, 1, 0, 0, 0, 1000000}, {0, 60000000, 1, 0, 45000000, 60000000}, {7, 0, 0, 6, 1, 1000000}, {8, 0, 0, 7, 2, 1000000}, {9, 0, 0, 7, 2, 1000000},
	})
}

// Promise 12: us at 0 and at MaxRtt, each one below and one above, with Has and without it, and others that are none.
func TestTimesThatAreNoSamples(t *testing.T) {
	for _, r := range []impl.Rtt{ordinaryRtt(), impl.RttNew(), {Has: true, Rto: 1000000}, {Has: true, Mean: mostRtt, Var: mostRtt, Rto: mostRtt}} {
		for _, us := range []int{0, 1, 59999999, 60000000} {
			if got, ok := impl.RttSample(r, us); !ok || !got.Has {
				t.Errorf("RttSample(%+v, %d) = %+v, %v", r, us, got, ok)
			}
		}
		for _, us := range wrongNumbers(mostRtt) {
			if got, ok := impl.RttSample(r, us); ok || got != (impl.Rtt{}) {
				t.Errorf("RttSample(%+v, %d) = %+v, %v", r, us, got, ok)
			}
		}
	}
}

// Promise 12: an Rto whose double is at MaxRtt, below it and above it; all else stays.
func TestBackoffsByHand(t *testing.T) {
	for _, c := range [][2]int{
		{1000000, 2000000}, {1000001, 2000002}, {1090000, 2180000}, {16000000, 32000000}, {29999999, 59999998}, {30000000, 60000000}, {30000001, 60000000}, {32000000, 60000000}, {59999999, 60000000}, {60000000, 60000000},
	} {
		for _, r := range []impl.Rtt{{}, {Has: true}, {Has: true, Mean: 410000, Var: 170000}, {Has: true, Mean: mostRtt, Var: mostRtt}} {
			want := r
			r.Rto, want.Rto = c[0], c[1]
			if got := checkBackedOff(t, r); got != want {
				t.Errorf("RttBackoff(%+v) = %+v, want %+v", r, got, want)
			}
		}
	}
	for _, rto := range append(wrongNumbers(mostRtt), 0, 999999, 60000001) {
		checkNoRtt(t, impl.Rtt{Has: true, Mean: 410000, Var: 170000, Rto: rto}, "no Rto to double")
		checkNoRtt(t, impl.Rtt{Rto: rto}, "no Rto to double, without Has")
	}
}

// Promise 12: all small numbers, near 0, near a Mean of a second, and near the end.
func TestSmallSamples(t *testing.T) {
	for _, base := range []int{0, 999000, mostRtt - 40} {
		for mean := base; mean <= base+40; mean++ {
			for spread := range 41 {
				for us := base; us <= base+40; us++ {
					checkSampled(t, impl.Rtt{Has: true, Mean: mean, Var: spread, Rto: 1000000}, us)
				}
				if t.Failed() {
					t.FailNow()
				}
			}
		}
	}
}

// anyRtt makes ones of all sizes, many of them near the edges of others.
func anyRtt(d *dice) impl.Rtt {
	size := d.one(1, 5, 1000, 300000, 2000000, 25000000, mostRtt)
	r := impl.Rtt{Has: d.below(8) > 0, Rto: brought(d.one(leastRto, leastRto+d.below(size+1), mostRtt/2+d.below(5)-2, mostRtt-d.below(3)), leastRto, mostRtt)}
	if r.Has {
		r.Mean = brought(d.one(0, size, d.below(size+1), size+d.below(9), size-d.below(9)), 0, mostRtt)
		r.Var = brought(d.one(0, size/2, d.below(size+1), d.below(size+1), d.below(700), 250+d.below(200), mostRtt-d.below(3)), 0, mostRtt)
	}
	return r
}

func anySample(d *dice, r impl.Rtt) int {
	list := samplesAround(r)
	return d.one(r.Mean, r.Mean+d.below(33)-16, r.Mean+r.Var+d.below(17)-8, r.Mean-r.Var+d.below(17)-8, d.below(2*r.Mean+2), d.below(mostRtt+1), list[d.below(len(list))])
}

// Promise 12: ones of all forms, with samples of all kinds.
func TestSamplesOfAllForms(t *testing.T) {
	d := newDice()
	kinds := map[string]int{}
	for range 100000 {
		r := anyRtt(d)
		us := anySample(d, r)
		got := checkSampled(t, r, us)
		checkBackedOff(t, r)
		if t.Failed() {
			t.FailNow()
		}
		rto := got.Mean + 4*got.Var
		for kind, is := range map[string]bool{
			"refused": !got.Has, "the first": got.Has && !r.Has, "Mean goes up": r.Has && got.Mean > r.Mean, "Mean goes down": got.Has && got.Mean < r.Mean, "Mean stays": r.Has && got.Mean == r.Mean,
			"Var goes up": r.Has && got.Var > r.Var, "Var goes down": got.Has && got.Var < r.Var, "a low Rto": got.Has && rto < leastRto, "a high Rto": got.Has && rto > mostRtt, "an ordinary Rto": got.Has && rto > leastRto && rto < mostRtt && 4*got.Var > 1000, "a small Var": got.Has && got.Rto > leastRto && got.Rto < mostRtt && 4*got.Var < 1000,
		} {
			if is {
				kinds[kind]++
			}
		}
	}
	if len(kinds) != 11 {
		t.Error("one kind is missing:", kinds)
	}
	for kind, count := range kinds {
		if count < 300 {
			t.Error("too few of one kind:", kind, count)
		}
	}
}

// Promise 12: one field is changed, and mostly no longer as it should be then.
func TestWrongedRtts(t *testing.T) {
	d := newDice()
	count := [2]int{}
	for range 20000 {
		r := anyRtt(d)
		if at := d.below(4); at < 3 {
			*[]*int{&r.Mean, &r.Var, &r.Rto}[at] = d.one(-1, 0, 1, leastRto-1, leastRto, mostRtt, mostRtt+1, math.MaxInt, math.MinInt)
		} else {
			r.Has = !r.Has
		}
		if rttFits(r) {
			count[0]++
			checkRtt(t, r, "still as it should be")
		} else {
			count[1]++
			checkNoRtt(t, r, "no longer as it should be")
		}
		if t.Failed() {
			t.FailNow()
		}
	}
	if count[0] < 1000 || count[1] < 1000 {
		t.Error("too few of one kind:", count)
	}
}

// Promise 12: long ways from RttNew on, with time-outs now and then, each step held against both sentences.
func TestLongWaysOfRtts(t *testing.T) {
	d := newDice()
	for _, size := range []int{1, 900, 30000, 400000, 3000000, mostRtt} {
		r := impl.RttNew()
		for range 20000 {
			if d.below(10) == 0 {
				r = checkBackedOff(t, r)
			} else {
				r = checkSampled(t, r, d.one(size, d.below(size+1), size/2+d.below(size/2+1)))
			}
			if t.Failed() {
				t.FailNow()
			}
		}
	}
}

// Promise 12: told the same again and again, Mean comes to it from above, and within 7 of it from below, since eighth parts go downwards.
func TestMeansGoWhereTheyAreTold(t *testing.T) {
	for _, c := range [][2]int{{0, mostRtt}, {mostRtt, 0}, {400000, 500000}, {500000, 400000}, {1, 0}, {0, 8}} {
		r := impl.Rtt{Has: true, Mean: c[0], Var: 1000, Rto: mostRtt}
		for range 1000 {
			r = checkSampled(t, r, c[1])
		}
		below := 0
		if c[0] < c[1] {
			below = 7
		}
		if r.Mean != c[1]-below {
			t.Errorf("from %d on, told %d: %+v", c[0], c[1], r)
		}
	}
}

// No function keeps anything: answers are the same whatever was asked ahead.
func TestRttsKeepNothing(t *testing.T) {
	d := newDice()
	var list, first []impl.Rtt
	for range 1000 {
		r := anyRtt(d)
		got, _ := impl.RttSample(r, 123456)
		list, first = append(list, r), append(first, got)
	}
	for i := len(list) - 1; i >= 0; i-- {
		impl.RttSample(impl.Rtt{}, i)
		impl.RttBackoff(list[i])
		if got, ok := impl.RttSample(list[i], 123456); !ok || got != first[i] {
			t.Fatalf("RttSample was %+v, is %+v", first[i], got)
		}
		if got := impl.RttNew(); got != (impl.Rtt{Rto: 1000000}) {
			t.Fatalf("RttNew() = %+v", got)
		}
	}
}
