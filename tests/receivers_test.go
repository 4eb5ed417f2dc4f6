package tests

import (
	"math"
	"slices"
	"testing"

	"loop.example/g00453/impl"
)

// receiverOf has a Next, and spans from each first number to the second one.
func receiverOf(next int, ends ...int) impl.Recv {
	r := impl.Recv{Next: next}
	for i := 0; i+1 < len(ends); i += 2 {
		r.Spans = append(r.Spans, impl.Span{From: ends[i], To: ends[i+1]})
	}
	return r
}

func ordinaryReceiver() impl.Recv { return receiverOf(100, 200, 300, 400, 500, 600, 700) }

// fullReceiver has no room for one more span.
func fullReceiver() impl.Recv {
	return receiverOf(10, 20, 30, 40, 50, 60, 70, 80, 90, 100, 110, 120, 130, 140, 150, 160, 170)
}

func clonedReceiver(r impl.Recv) impl.Recv {
	return impl.Recv{Next: r.Next, Spans: slices.Clone(r.Spans)}
}

func sameReceiver(a, b impl.Recv) bool {
	return a.Next == b.Next && slices.Equal(a.Spans, b.Spans)
}

// endsOf has all numbers of r in a row.
func endsOf(r impl.Recv) []int {
	list := []int{r.Next}
	for _, s := range r.Spans {
		list = append(list, s.From, s.To)
	}
	return list
}

// receiverFits is RecvOk by another road: its numbers in a row are a rising one.
func receiverFits(r impl.Recv) bool {
	list := endsOf(r)
	for i := range list {
		if !fits(list[i], 0, mostTime) || i > 0 && list[i] <= list[i-1] {
			return false
		}
	}
	return len(list) <= 17
}

// had tells of one byte whether r has it, as the document's words say it.
func had(r impl.Recv, at int) bool {
	if at < 0 || at < r.Next {
		return at >= 0
	}
	return slices.ContainsFunc(r.Spans, func(s impl.Span) bool { return s.From <= at && s.To > at })
}

// runs has the stretches between places whose flags are like has, in order; those side by side are one.
func runs(places []int, flags []bool, has bool) (list []impl.Span) {
	for i, flag := range flags {
		if flag != has {
			continue
		}
		if i > 0 && flags[i-1] == has {
			list[len(list)-1].To = places[i+1]
		} else {
			list = append(list, impl.Span{From: places[i], To: places[i+1]})
		}
	}
	return list
}

// toldReceiver has what the flags say of the stretches between places, of which the first is 0.
func toldReceiver(places []int, flags []bool) impl.Recv {
	r := impl.Recv{Spans: runs(places, flags, true)}
	if len(r.Spans) > 0 && r.Spans[0].From == 0 {
		r.Next = r.Spans[0].To
		r.Spans = r.Spans[1:]
	}
	return r
}

// stretches has all places where something begins or ends, 0 too, in order, each once.
func stretches(r impl.Recv, more ...int) []int {
	list := append(endsOf(r), more...)
	list = append(list, 0)
	slices.Sort(list)
	return slices.Compact(list)
}

// segBehind is RecvSeg by another road: between two places all bytes are alike, so the first tells of all.
func segBehind(r impl.Recv, from, to int) (impl.Recv, int, bool) {
	if !receiverFits(r) || !fits(from, 0, mostTime) || !fits(to, from, mostTime) || from == to {
		return impl.Recv{}, 0, false
	}
	places := stretches(r, from, to)
	flags := make([]bool, len(places)-1)
	for i := range flags {
		flags[i] = had(r, places[i]) || fits(places[i], from, to-1)
	}
	after := toldReceiver(places, flags)
	if len(after.Spans) > 8 {
		return r, 0, false
	}
	return after, after.Next - r.Next, true
}

// holesOf is Holes by another road.
func holesOf(r impl.Recv) []impl.Span {
	places := stretches(r)
	flags := make([]bool, len(places)-1)
	for i := range flags {
		flags[i] = had(r, places[i])
	}
	return runs(places, flags, false)
}

// placesAround has the places where something begins or ends, one below and one above, and those at the ends.
func placesAround(r impl.Recv, more ...int) []int {
	var list []int
	for _, at := range append(stretches(r, more...), mostTime) {
		list = append(list, at-1, at, at+1)
	}
	slices.Sort(list)
	return slices.Compact(list)
}

// checkSeg asks the promise itself too: behind a segment the receiver has what it had and what came, and nothing else.
func checkSeg(t *testing.T, r impl.Recv, from, to int) (impl.Recv, bool) {
	t.Helper()
	was := clonedReceiver(r)
	want, more, well := segBehind(r, from, to)
	got, n, ok := impl.RecvSeg(r, from, to)
	if !sameReceiver(got, want) || n != more || ok != well || !sameReceiver(r, was) {
		t.Errorf("RecvSeg(%v, %d, %d) = %v, %d, %v, want %v, %d, %v", was, from, to, got, n, ok, want, more, well)
	}
	if ok && !impl.RecvOk(got) {
		t.Errorf("RecvSeg(%v, %d, %d) = %v", was, from, to, got)
	}
	return got, ok
}

// checkBytes asks for the bytes around all places, one by one.
func checkBytes(t *testing.T, r, after impl.Recv, from, to int) {
	t.Helper()
	for _, at := range placesAround(r, from, to) {
		if got := impl.RecvHas(after, at); got != (impl.RecvHas(r, at) || fits(at, from, to-1)) {
			t.Errorf("behind RecvSeg(%v, %d, %d) = %v: the byte %d: %v", r, from, to, after, at, got)
		}
	}
}

// checkHoles asks the promise itself too: each byte below the last To is had, or is in just one hole.
func checkHoles(t *testing.T, r impl.Recv) {
	t.Helper()
	got := impl.Holes(r)
	if want := holesOf(r); !slices.Equal(got, want) {
		t.Errorf("Holes(%v) = %v, want %v", r, got, want)
	}
	last := slices.Max(endsOf(r))
	for _, at := range placesAround(r) {
		count := 0
		for _, s := range got {
			if s.From <= at && at < s.To {
				count++
			}
		}
		if impl.RecvHas(r, at) {
			count += 2
		}
		if want := at >= 0 && at < last; want != (count == 1 || count == 2) || count == 3 {
			t.Errorf("Holes(%v) = %v, and the byte %d", r, got, at)
		}
	}
}

// checkReceiver asks what is as it should be, with all segments between the places around.
func checkReceiver(t *testing.T, r impl.Recv, name string) {
	t.Helper()
	if !impl.RecvOk(r) || !receiverFits(r) {
		t.Errorf("%s: it is not RecvOk: %v", name, r)
	}
	checkHoles(t, r)
	around := placesAround(r)
	for _, at := range append(wrongNumbers(mostTime), around...) {
		if got := impl.RecvHas(r, at); got != had(r, at) {
			t.Errorf("%s: RecvHas(%v, %d) = %v", name, r, at, got)
		}
	}
	for _, from := range around {
		for _, to := range around {
			checkSeg(t, r, from, to)
		}
	}
}

// checkNoReceiver asks all that go by RecvOk for their fixed answers.
func checkNoReceiver(t *testing.T, r impl.Recv, name string) {
	t.Helper()
	if impl.RecvOk(r) || receiverFits(r) {
		t.Errorf("%s: it is RecvOk: %v", name, r)
	}
	if got := impl.Holes(r); len(got) != 0 {
		t.Errorf("%s: Holes(%v) = %v", name, r, got)
	}
	list := []int{-1, 0, 1, mostTime - 1, mostTime, mostTime + 1, math.MaxInt, math.MinInt}
	for _, at := range endsOf(r) {
		list = append(list, at-1, at, at+1)
	}
	for _, at := range list {
		if impl.RecvHas(r, at) {
			t.Errorf("%s: RecvHas(%v, %d)", name, r, at)
		}
	}
	for _, s := range []impl.Span{{From: 0, To: 1}, {From: 0, To: mostTime}, {From: 100, To: 200}, {From: mostTime - 1, To: mostTime}, {From: -1, To: 1}, {From: 5, To: 5}, {From: 5, To: mostTime + 1}} {
		if got, n, ok := impl.RecvSeg(r, s.From, s.To); ok || n != 0 || !sameReceiver(got, impl.Recv{}) {
			t.Errorf("%s: RecvSeg(%v, %d, %d) = %v, %d, %v", name, r, s.From, s.To, got, n, ok)
		}
	}
}

// receiverCase tells by hand whether r is as it should be.
type receiverCase struct {
	name string
	r    impl.Recv
	well bool
}

func checkReceivers(t *testing.T, list []receiverCase) {
	t.Helper()
	for _, c := range list {
		if c.well {
			checkReceiver(t, c.r, c.name)
		} else {
			checkNoReceiver(t, c.r, c.name)
		}
	}
}

// Promise 13: Next at 0 and at MaxTime, each one below and one above.
func TestNextsOfReceivers(t *testing.T) {
	checkReceivers(t, []receiverCase{
		{"the zero value", impl.Recv{}, true}, {"empty spans", impl.Recv{Spans: []impl.Span{}}, true}, {"ordinary", ordinaryReceiver(), true}, {"full", fullReceiver(), true},
		{"Next below 0", receiverOf(-1), false}, {"Next at 1", receiverOf(1), true}, {"Next below its end", receiverOf(mostTime - 1), true}, {"Next at its end", receiverOf(mostTime), true}, {"Next above its end", receiverOf(mostTime + 1), false},
		{"Next below 0, spans", receiverOf(-1, 5, 6), false}, {"Next at 0, spans", receiverOf(0, 5, 6), true}, {"Next far below 0, spans", receiverOf(math.MinInt, 5, 6), false},
	})
	for _, next := range wrongNumbers(mostTime) {
		checkNoReceiver(t, receiverOf(next), "no Next")
		checkNoReceiver(t, receiverOf(next, 200, 300), "no Next, a span")
	}
}

// Promise 13: a To at its From, one below and one above; at MaxTime and one above; for each of several spans.
func TestEndsOfSpans(t *testing.T) {
	checkReceivers(t, []receiverCase{
		{"To below From", receiverOf(100, 200, 199), false}, {"To at From", receiverOf(100, 200, 200), false}, {"To above From", receiverOf(100, 200, 201), true}, {"To far below From", receiverOf(100, 200, 0), false}, {"To below 0", receiverOf(100, 200, -1), false}, {"the least To", receiverOf(100, 200, math.MinInt), false},
		{"To below its end", receiverOf(100, 200, mostTime-1), true}, {"To at its end", receiverOf(100, 200, mostTime), true}, {"To above its end", receiverOf(100, 200, mostTime+1), false}, {"the greatest To", receiverOf(100, 200, math.MaxInt), false},
		{"the last byte", receiverOf(100, mostTime-1, mostTime), true}, {"From at the end", receiverOf(100, mostTime, mostTime), false}, {"behind the end", receiverOf(100, mostTime, mostTime+1), false}, {"far behind the end", receiverOf(100, mostTime+5, mostTime+9), false},
		{"Next ahead of the end", receiverOf(mostTime-2, mostTime-1, mostTime), true}, {"Next near the end", receiverOf(mostTime-1, mostTime, mostTime+1), false}, {"Next at the end", receiverOf(mostTime, mostTime+1, mostTime+2), false},
	})
	for i := range 3 {
		for far, well := range map[int]bool{-101: false, -100: false, -1: false, 0: false, 1: true, 99: true, 100: true} {
			r := ordinaryReceiver()
			r.Spans[i].To = r.Spans[i].From + far
			checkReceivers(t, []receiverCase{{"one of three", r, well}})
		}
		r := ordinaryReceiver()
		r.Spans[i] = impl.Span{}
		checkNoReceiver(t, r, "one of three is nothing")
	}
	r := ordinaryReceiver()
	r.Spans[2].To = mostTime
	checkReceiver(t, r, "the last of three")
	r.Spans[2].To = mostTime + 1
	checkNoReceiver(t, r, "the last of three")
}

// Promise 13: a From at the To ahead of it, one below and one above; the first one at Next.
func TestBeginningsOfSpans(t *testing.T) {
	checkReceivers(t, []receiverCase{
		{"below Next", receiverOf(100, 99, 300), false}, {"at Next", receiverOf(100, 100, 300), false}, {"above Next", receiverOf(100, 101, 300), true}, {"far below Next", receiverOf(100, 50, 60), false}, {"from below Next", receiverOf(100, 0, 300), false},
		{"at a Next of 0", receiverOf(0, 0, 300), false}, {"above a Next of 0", receiverOf(0, 1, 300), true}, {"below 0", receiverOf(0, -1, 300), false}, {"far below 0", receiverOf(0, math.MinInt, 300), false},
		{"below To", receiverOf(100, 200, 300, 299, 500), false}, {"at To", receiverOf(100, 200, 300, 300, 500), false}, {"above To", receiverOf(100, 200, 300, 301, 500), true}, {"within", receiverOf(100, 200, 300, 250, 260), false}, {"the same", receiverOf(100, 200, 300, 200, 300), false}, {"ahead", receiverOf(100, 200, 300, 120, 150), false}, {"around", receiverOf(100, 200, 300, 150, 400), false},
		{"the last below To", receiverOf(100, 200, 300, 400, 500, 499, 700), false}, {"the last at To", receiverOf(100, 200, 300, 400, 500, 500, 700), false}, {"the last above To", receiverOf(100, 200, 300, 400, 500, 501, 700), true}, {"the last above the first", receiverOf(100, 200, 300, 400, 500, 320, 340), false}, {"the last ahead of all", receiverOf(100, 200, 300, 400, 500, 120, 140), false},
		{"each byte but one", receiverOf(1, 2, 3, 4, 5, 6, 7, 8, 9, 10, 11, 12, 13, 14, 15, 16, 17), true}, {"each but one, from the second on", receiverOf(0, 1, 2, 3, 4, 5, 6, 7, 8, 9, 10, 11, 12, 13, 14, 15, 16), true},
	})
}

// Promise 13: MaxSpans spans and one more.
func TestAsManyAsMaxSpans(t *testing.T) {
	var r impl.Recv
	for count := range 12 {
		checkReceivers(t, []receiverCase{{"so many spans", r, count <= 8}})
		r.Spans = append(r.Spans, impl.Span{From: 20*count + 10, To: 20*count + 20})
	}
	r = impl.Recv{Spans: make([]impl.Span, 100000)}
	checkNoReceiver(t, r, "a long list of nothing")
	for i := range r.Spans {
		r.Spans[i] = impl.Span{From: 2*i + 1, To: 2*i + 2}
	}
	checkNoReceiver(t, r, "a long list")
	r.Spans = r.Spans[:9]
	checkNoReceiver(t, r, "one more than MaxSpans")
	r.Spans = r.Spans[:8]
	checkReceiver(t, r, "MaxSpans")
}

// Promise 13: Holes without spans and with MaxSpans of them, by hand.
func TestHolesByHand(t *testing.T) {
	for _, c := range []struct {
		name string
		r    impl.Recv
		want impl.Recv
	}{
		{"nothing", impl.Recv{}, receiverOf(0)}, {"no spans", receiverOf(100), receiverOf(0)}, {"no spans at the end", receiverOf(mostTime), receiverOf(0)},
		{"one span", receiverOf(100, 200, 300), receiverOf(0, 100, 200)}, {"one span from the first byte on", receiverOf(0, 200, 300), receiverOf(0, 0, 200)}, {"one byte lacks", receiverOf(100, 101, 300), receiverOf(0, 100, 101)}, {"the first byte lacks", receiverOf(0, 1, 2), receiverOf(0, 0, 1)},
		{"three spans", ordinaryReceiver(), receiverOf(0, 100, 200, 300, 400, 500, 600)}, {"all but the last byte lacks", receiverOf(0, mostTime-1, mostTime), receiverOf(0, 0, mostTime-1)},
		{"MaxSpans", fullReceiver(), receiverOf(0, 10, 20, 30, 40, 50, 60, 70, 80, 90, 100, 110, 120, 130, 140, 150, 160)},
		{"bytes that lack", receiverOf(1, 2, 3, 4, 5, 6, 7, 8, 9, 10, 11, 12, 13, 14, 15, 16, 17), receiverOf(0, 1, 2, 3, 4, 5, 6, 7, 8, 9, 10, 11, 12, 13, 14, 15, 16)},
		{"no receiver", receiverOf(100, 100, 300), receiverOf(0)}, {"no receiver, spans out of order", receiverOf(100, 400, 500, 200, 300), receiverOf(0)}, {"no receiver, no Next", receiverOf(-1, 200, 300), receiverOf(0)}, {"no receiver, too many", receiverOf(1, 2, 3, 4, 5, 6, 7, 8, 9, 10, 11, 12, 13, 14, 15, 16, 17, 18, 19), receiverOf(0)},
	} {
		if got := impl.Holes(c.r); !slices.Equal(got, c.want.Spans) {
			t.Errorf("%s: Holes(%v) = %v, want %v", c.name, c.r, got, c.want.Spans)
		}
	}
}

// Promise 13: a byte at -1, 0, Next, each From and To, one below and one above, by hand.
func TestBytesByHand(t *testing.T) {
	for _, c := range []struct {
		name      string
		r         impl.Recv
		has, lack []int
	}{
		{"nothing", impl.Recv{}, nil, []int{-1, 0, 1, mostTime - 1, mostTime}},
		{"ordinary", ordinaryReceiver(), []int{0, 1, 50, 98, 99, 200, 201, 250, 298, 299, 400, 401, 498, 499, 600, 601, 698, 699}, []int{-2, -1, 100, 101, 150, 198, 199, 300, 301, 350, 398, 399, 500, 501, 598, 599, 700, 701, mostTime - 1, mostTime, mostTime + 1}},
		{"one byte", receiverOf(1), []int{0}, []int{-1, 1, 2}},
		{"one byte further on", receiverOf(0, 5, 6), []int{5}, []int{-1, 0, 1, 4, 6, 7}},
		{"all", receiverOf(mostTime), []int{0, 1, mostTime - 2, mostTime - 1}, []int{-1, mostTime, mostTime + 1}},
		{"the last byte", receiverOf(0, mostTime-1, mostTime), []int{mostTime - 1}, []int{-1, 0, mostTime - 2, mostTime, mostTime + 1}},
		{"full", fullReceiver(), []int{0, 9, 20, 29, 40, 49, 80, 89, 160, 169}, []int{-1, 10, 19, 30, 39, 79, 90, 159, 170, 171}},
		{"no receiver", receiverOf(100, 100, 300), nil, []int{-1, 0, 50, 99, 100, 200, 299, 300}},
		{"no receiver behind a span that is one", receiverOf(100, 200, 300, 300, 400), nil, []int{-1, 0, 50, 99, 200, 299, 300, 399}},
		{"no receiver, no Next", receiverOf(mostTime + 1), nil, []int{-1, 0, 50, mostTime - 1, mostTime}},
		{"no receiver, too many", receiverOf(1, 2, 3, 4, 5, 6, 7, 8, 9, 10, 11, 12, 13, 14, 15, 16, 17, 18, 19), nil, []int{-1, 0, 2, 4, 16, 18}},
	} {
		for _, at := range c.has {
			if !impl.RecvHas(c.r, at) {
				t.Errorf("%s: RecvHas(%v, %d) = false", c.name, c.r, at)
			}
		}
		for _, at := range append(c.lack, math.MinInt, math.MaxInt) {
			if impl.RecvHas(c.r, at) {
				t.Errorf("%s: RecvHas(%v, %d) = true", c.name, c.r, at)
			}
		}
	}
}

// wrongedReceiver changes one number, or how many spans there are, mostly so that it is no longer as it should be.
func wrongedReceiver(d *dice, r impl.Recv) impl.Recv {
	r = clonedReceiver(r)
	list := endsOf(r)
	other := list[d.below(len(list))]
	value := d.one(other-1, other, other+1, other, -1, 0, mostTime, mostTime+1, math.MaxInt, math.MinInt)
	switch at := d.below(len(list) + 2); {
	case at == 0:
		r.Next = value
	case at == len(list):
		r.Spans = append(r.Spans, impl.Span{From: value, To: d.one(value, value+1, other+1)})
	case at > len(list):
		r.Spans = append(r.Spans, r.Spans...)
	case at%2 == 1:
		r.Spans[at/2].From = value
	default:
		r.Spans[at/2-1].To = value
	}
	return r
}

// Promise 13: one thing is changed, and it is mostly no longer as it should be then.
func TestWrongedReceivers(t *testing.T) {
	d := newDice()
	count := [2]int{}
	for range 30000 {
		r := wrongedReceiver(d, anyReceiver(d))
		if receiverFits(r) {
			count[0]++
			if !impl.RecvOk(r) {
				t.Errorf("it is not RecvOk: %v", r)
			}
			checkHoles(t, r)
		} else {
			count[1]++
			checkNoReceiver(t, r, "no longer as it should be")
		}
		if t.Failed() {
			t.FailNow()
		}
	}
	if count[0] < 1000 || count[1] < 1000 {
		t.Error("too few of one kind:", count)
	}
}
