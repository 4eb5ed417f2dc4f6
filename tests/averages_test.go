package tests

import (
	"math"
	"math/big"
	"slices"
	"testing"

	"loop.example/g00453/impl"
)

const redBytes = 1048576
const redTop = redBytes * impl.One

type redField struct {
	name        string
	least, most int // beside the others as in ordinaryRed
	of          func(r *impl.Red) *int
}

func redFields() []redField {
	return []redField{
		{"MinT", 1, 4999, func(r *impl.Red) *int { return &r.MinT }},
		{"MaxT", 1001, 1048576, func(r *impl.Red) *int { return &r.MaxT }},
		{"MaxP", 1, 65536, func(r *impl.Red) *int { return &r.MaxP }},
		{"Avg", 0, 68719476736, func(r *impl.Red) *int { return &r.Avg }},
		{"Count", 0, 1000000, func(r *impl.Red) *int { return &r.Count }},
	}
}

func ordinaryRed() impl.Red {
	return impl.Red{MinT: 1000, MaxT: 5000, MaxP: 6553, Avg: 3000 * impl.One, Count: 10}
}

// wrongReds has those of which one field, or how two lie to each other, is not as it should be.
func wrongReds() []impl.Red {
	list := []impl.Red{{}, {MinT: -2, MaxT: -1, MaxP: 1}, {MinT: math.MinInt, MaxT: math.MaxInt, MaxP: 1}}
	for _, c := range redFields() {
		for _, v := range []int{c.least - 1, c.least - 2, -c.most, c.most + 1, c.most + 2, 1 << 48, 1 << 62, math.MaxInt, math.MinInt} {
			r := ordinaryRed()
			*c.of(&r) = v
			list = append(list, r)
		}
	}
	return list
}

// anyRed makes Reds of all sizes, whose averages are mostly near the thresholds.
func anyRed(list []int) impl.Red {
	maxT := 2 + list[0]&(redTop-1)%(redBytes-1)>>(list[1]&15)
	r := impl.Red{MinT: 1 + list[2]&(redBytes-1)%(maxT-1), MaxT: maxT, MaxP: 1 + list[3]&(impl.One-1)}
	r.Avg = list[4] & (redTop - 1)
	if list[1]&16 == 0 {
		span := (maxT - r.MinT) * impl.One
		r.Avg = min(redTop, r.MinT*impl.One-2+list[4]&(redTop-1)%(span+4))
	}
	if list[1]&32 == 0 {
		r.Count = list[5] & (1<<40 - 1) % 1000001
	} else {
		r.Count = list[5] & 31
	}
	return r
}

// average is RedAvg's by another road: big's Div goes downwards whatever the sign.
func average(avg, bytes int) int {
	x := new(big.Int).Sub(new(big.Int).Mul(large(bytes), large(impl.One)), large(avg))
	return held(x.Div(x, large(512)).Add(x, large(avg)))
}

// checkNoRed asks all that go by RedOk for their fixed answers.
func checkNoRed(t *testing.T, r impl.Red) {
	t.Helper()
	if impl.RedOk(r) || impl.RedProb(r) != 0 {
		t.Errorf("%v: RedOk is %v, RedProb %d", r, impl.RedOk(r), impl.RedProb(r))
	}
	for _, n := range []int{0, 1, 10000, redBytes, -1} {
		if got, ok := impl.RedAvg(r, n); ok || got != (impl.Red{}) {
			t.Errorf("RedAvg(%v, %d) = %v, %v", r, n, got, ok)
		}
		if got, ok := impl.RedIdle(r, n); ok || got != (impl.Red{}) {
			t.Errorf("RedIdle(%v, %d) = %v, %v", r, n, got, ok)
		}
		if got, hit := impl.RedArrive(r, n, 0); hit || got != (impl.Red{}) {
			t.Errorf("RedArrive(%v, %d, 0) = %v, %v", r, n, got, hit)
		}
	}
}

func checkRed(t *testing.T, r impl.Red) {
	t.Helper()
	if !impl.RedOk(r) {
		t.Errorf("%v: it is not RedOk", r)
	}
	if got, ok := impl.RedIdle(r, 0); !ok || got != r {
		t.Errorf("RedIdle(%v, 0) = %v, %v", r, got, ok)
	}
	if _, ok := impl.RedAvg(r, 0); !ok {
		t.Errorf("RedAvg(%v, 0) answers false", r)
	}
	if got, _ := impl.RedArrive(r, 0, 0); got == (impl.Red{}) {
		t.Errorf("RedArrive(%v, 0, 0) answers the zero value", r)
	}
}

// Promise 5: each field at its least, at its most, one below and one above.
func TestRedFields(t *testing.T) {
	checkRed(t, ordinaryRed())
	checkRed(t, impl.Red{MinT: 1, MaxT: 2, MaxP: 1})
	checkRed(t, impl.Red{MinT: 1048575, MaxT: 1048576, MaxP: 65536, Avg: 68719476736, Count: 1000000})
	for _, c := range redFields() {
		for _, v := range []int{c.least, c.least + 1, c.most - 1, c.most} {
			r := ordinaryRed()
			*c.of(&r) = v
			checkRed(t, r)
		}
	}
	for _, r := range wrongReds() {
		checkNoRed(t, r)
	}
}

// Promise 5: MaxT at MinT and one above it.
func TestThresholdsAreApart(t *testing.T) {
	for _, minT := range []int{1, 2, 1000, 1048574, 1048575, 1048576, 1048577} {
		for step := -1; step <= 2; step++ {
			r := impl.Red{MinT: minT, MaxT: minT + step, MaxP: 6553}
			got, ok := impl.RedNew(r.MinT, r.MaxT, r.MaxP)
			if step >= 1 && r.MaxT <= 1048576 {
				checkRed(t, r)
				if !ok || got != r {
					t.Errorf("RedNew of %v = %v, %v", r, got, ok)
				}
				continue
			}
			checkNoRed(t, r)
			if ok || got != (impl.Red{}) {
				t.Errorf("RedNew of %v = %v, %v", r, got, ok)
			}
		}
	}
}

func TestNewReds(t *testing.T) {
	for _, c := range []struct {
		minT, maxT, maxP int
		want             bool
	}{
		{3000, 9000, 6553, true}, {1, 2, 1, true}, {1, 1048576, 65536, true},
		{0, 2, 1, false}, {-1, 2, 1, false}, {1, 1, 1, false}, {2, 1, 1, false}, {1, 1048577, 1, false},
		{1, 2, 0, false}, {1, 2, -1, false}, {1, 2, 65537, false},
		{math.MinInt, 2, 1, false}, {1, math.MaxInt, 1, false}, {1, 2, math.MaxInt, false}, {1, 2, math.MinInt, false}, {math.MaxInt, math.MinInt, 1, false},
	} {
		var want impl.Red
		if c.want {
			want = impl.Red{MinT: c.minT, MaxT: c.maxT, MaxP: c.maxP}
		}
		if got, ok := impl.RedNew(c.minT, c.maxT, c.maxP); ok != c.want || got != want {
			t.Errorf("RedNew(%d, %d, %d) = %v, %v", c.minT, c.maxT, c.maxP, got, ok)
		}
	}
}

// checkAverage asks for all of RedAvg, and that it goes towards what there is, and not past it.
func checkAverage(t *testing.T, r impl.Red, bytes int) {
	t.Helper()
	want := r
	want.Avg = average(r.Avg, bytes)
	got, ok := impl.RedAvg(r, bytes)
	if !ok || got != want || !impl.RedOk(got) {
		t.Errorf("RedAvg(%v, %d) = %v, %v, want %v", r, bytes, got, ok, want)
	}
	there := bytes * impl.One
	if r.Avg < there && (got.Avg < r.Avg || got.Avg > there || there-r.Avg >= 512 && got.Avg == r.Avg) {
		t.Errorf("from %d below %d the average goes to %d", r.Avg, there, got.Avg)
	}
	if r.Avg > there && (got.Avg >= r.Avg || got.Avg < there) {
		t.Errorf("from %d above %d the average goes to %d", r.Avg, there, got.Avg)
	}
	if r.Avg == there && got.Avg != there {
		t.Errorf("the average does not stay at %d, but goes to %d", there, got.Avg)
	}
}

// Promise 5: bytes of 0, of 1048576, and one within; averages around them by less and more than 512.
func TestAveragesGoTowardsWhatThereIs(t *testing.T) {
	for _, bytes := range []int{0, 1, 2, 3000, 1048574, 1048575, 1048576} {
		for _, step := range []int{0, 1, 2, 510, 511, 512, 513, 1023, 1024, 1025, impl.One, 77777777, redTop} {
			for _, avg := range []int{bytes*impl.One - step, bytes*impl.One + step} {
				r := ordinaryRed()
				if r.Avg = avg; impl.RedOk(r) {
					checkAverage(t, r, bytes)
				}
			}
		}
	}
	list := noise(6 * 20000)
	for i := 0; i < len(list); i += 6 {
		r := anyRed(list[i : i+6])
		checkRed(t, r)
		checkAverage(t, r, list[i+5]&(1<<40-1)%(redBytes+1))
		if t.Failed() {
			t.FailNow()
		}
	}
}

// Promise 5: below 0 the 512th part goes downwards, above it is cut off.
func TestAveragesByHand(t *testing.T) {
	for _, c := range []struct{ avg, bytes, want int }{
		{0, 0, 0}, {1, 0, 0}, {2, 0, 1}, {511, 0, 510}, {512, 0, 511}, {513, 0, 511}, {1024, 0, 1022}, {1025, 0, 1022},
		{0, 1, 128}, {65536 - 511, 1, 65536 - 511}, {65536 - 512, 1, 65536 - 511}, {65535, 1, 65535}, {65537, 1, 65536},
		{0, 1048576, 134217728}, {68719476736, 1048576, 68719476736}, {68719476736, 0, 68719476736 - 134217728},
		{68719476735, 1048576, 68719476735}, {3000 * 65536, 3512, 3001 * 65536}, {3000 * 65536, 2488, 2999 * 65536},
	} {
		r := ordinaryRed()
		r.Avg = c.avg
		want := r
		want.Avg = c.want
		if got, ok := impl.RedAvg(r, c.bytes); !ok || got != want {
			t.Errorf("RedAvg(%v, %d) = %v, %v, want %v", r, c.bytes, got, ok, want)
		}
	}
}

// Promise 5: what there is, told again and again, is reached from above, and from below but for less than 512.
func TestAveragesArrive(t *testing.T) {
	for _, bytes := range []int{0, 1, 5000, 1048576} {
		for _, avg := range []int{0, 5000 * impl.One, redTop} {
			r := ordinaryRed()
			r.Avg = avg
			for range 12000 {
				r, _ = impl.RedAvg(r, bytes)
			}
			short := bytes*impl.One - r.Avg
			if short < 0 || short >= 512 || avg >= bytes*impl.One && short != 0 {
				t.Errorf("from %d on, %d bytes make an average of %d", avg, bytes, r.Avg)
			}
		}
	}
}

// wrongNumbers has numbers below 0 and above most, some of which would fall into its range if they went over.
func wrongNumbers(most int) []int {
	list := []int{-1, -2, -most, most + 1, most + 2, 2*most + 1, 1 << 32, 1<<32 + 1, 1 << 48, 1<<48 + 1, 1 << 57, math.MaxInt, math.MaxInt - 1, math.MinInt, math.MinInt + 1}
	return slices.DeleteFunc(list, func(n int) bool { return n >= 0 && n <= most })
}

// Promise 5: bytes of 0, of 1048576, one below and one above.
func TestWrongBytes(t *testing.T) {
	for _, bytes := range wrongNumbers(1048576) {
		for _, draw := range []int{0, impl.One - 1, -1, impl.One} {
			if got, hit := impl.RedArrive(ordinaryRed(), bytes, draw); hit || got != (impl.Red{}) {
				t.Errorf("RedArrive of %d bytes and %d = %v, %v", bytes, draw, got, hit)
			}
		}
		if got, ok := impl.RedAvg(ordinaryRed(), bytes); ok || got != (impl.Red{}) {
			t.Errorf("RedAvg of %d bytes = %v, %v", bytes, got, ok)
		}
	}
	for _, bytes := range []int{0, 1, 1048575, 1048576} {
		checkAverage(t, ordinaryRed(), bytes)
		if got, _ := impl.RedArrive(ordinaryRed(), bytes, impl.One-1); got.Avg != average(3000*impl.One, bytes) {
			t.Errorf("RedArrive of %d bytes has the average %d", bytes, got.Avg)
		}
	}
}

// Promise 5: pkts of 0, of 10000, one below and one above; each is RedAvg with 0.
func TestIdleIsAnAverageOfNothing(t *testing.T) {
	for _, avg := range []int{0, 1, 511, 512, 513, 3000 * impl.One, redTop - 1, redTop} {
		r := ordinaryRed()
		r.Avg = avg
		want := r
		for pkts := range 10001 {
			if pkts < 50 || pkts%997 == 0 || pkts >= 9998 {
				if got, ok := impl.RedIdle(r, pkts); !ok || got != want {
					t.Fatalf("RedIdle(%v, %d) = %v, %v, want %v", r, pkts, got, ok, want)
				}
			}
			want, _ = impl.RedAvg(want, 0)
		}
	}
	for _, pkts := range wrongNumbers(10000) {
		if got, ok := impl.RedIdle(ordinaryRed(), pkts); ok || got != (impl.Red{}) {
			t.Errorf("RedIdle of %d = %v, %v", pkts, got, ok)
		}
	}
}

func TestIdleInParts(t *testing.T) {
	list := noise(7 * 300)
	for i := 0; i < len(list); i += 7 {
		r := anyRed(list[i : i+6])
		a, b := list[i+6]&4095, list[i]&4095
		first, _ := impl.RedIdle(r, a)
		parts, _ := impl.RedIdle(first, b)
		if whole, ok := impl.RedIdle(r, a+b); !ok || whole != parts || whole.Avg > r.Avg {
			t.Fatalf("RedIdle(%v, %d) = %v, %v, in parts %v", r, a+b, whole, ok, parts)
		}
	}
}
