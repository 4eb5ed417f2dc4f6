package tests

import (
	"slices"
	"testing"

	"loop.example/g00453/impl"
)

// everyOrder calls one with each order of the list, by changing places.
func everyOrder(list []impl.Span, one func(list []impl.Span)) {
	var rest func(at int)
	rest = func(at int) {
		if at == len(list) {
			one(list)
			return
		}
		for i := at; i < len(list); i++ {
			list[at], list[i] = list[i], list[at]
			rest(at + 1)
			list[at], list[i] = list[i], list[at]
		}
	}
	rest(0)
}

// unionOf is what has all that r has and all segments, told in one go.
func unionOf(r impl.Recv, list []impl.Span) impl.Recv {
	var ends []int
	for _, s := range list {
		ends = append(ends, s.From, s.To)
	}
	places := stretches(r, ends...)
	flags := make([]bool, len(places)-1)
	for i := range flags {
		came := func(s impl.Span) bool { return s.From <= places[i] && places[i] < s.To }
		flags[i] = had(r, places[i]) || slices.ContainsFunc(list, came)
	}
	return toldReceiver(places, flags)
}

// checkInOrder puts all together one by one, and asks that Next goes on by what it is told in all.
func checkInOrder(t *testing.T, r impl.Recv, list []impl.Span, want impl.Recv) {
	t.Helper()
	got, sum := r, 0
	for _, s := range list {
		after, n, ok := impl.RecvSeg(got, s.From, s.To)
		if !ok || n < 0 || after.Next != got.Next+n {
			t.Fatalf("from %v on, %v: RecvSeg(%v, %d, %d) = %v, %d, %v", r, list, got, s.From, s.To, after, n, ok)
		}
		got, sum = after, sum+n
	}
	if !sameReceiver(got, want) || sum != want.Next-r.Next || !impl.RecvOk(got) {
		t.Fatalf("from %v on, %v: %v, %d more, want %v", r, list, got, sum, want)
	}
}

func checkEveryOrder(t *testing.T, r impl.Recv, ends ...int) {
	t.Helper()
	list := receiverOf(0, ends...).Spans
	want := unionOf(r, list)
	everyOrder(list, func(list []impl.Span) { checkInOrder(t, r, list, want) })
}

// Promise 13: some segments in every order, by hand.
func TestEveryOrderByHand(t *testing.T) {
	for _, c := range []struct {
		name string
		r    impl.Recv
		ends []int
		want impl.Recv
	}{
		{"side by side", impl.Recv{}, []int{0, 10, 10, 20, 20, 30, 30, 40, 40, 50, 50, 60}, receiverOf(60)},
		{"the first one lacks", impl.Recv{}, []int{10, 20, 20, 30, 30, 40, 40, 50, 50, 60}, receiverOf(0, 10, 60)},
		{"one over the other", impl.Recv{}, []int{0, 15, 10, 25, 20, 35, 30, 45, 40, 55}, receiverOf(55)},
		{"one within the other", impl.Recv{}, []int{10, 90, 20, 80, 30, 70, 40, 60, 49, 51}, receiverOf(0, 10, 90)},
		{"apart", impl.Recv{}, []int{10, 20, 30, 40, 50, 60, 70, 80, 90, 100, 110, 120}, receiverOf(0, 10, 20, 30, 40, 50, 60, 70, 80, 90, 100, 110, 120)},
		{"the same again", impl.Recv{}, []int{10, 20, 10, 20, 0, 5, 0, 5, 30, 31, 30, 31}, receiverOf(5, 10, 20, 30, 31)},
		{"a bridge", impl.Recv{}, []int{0, 10, 20, 30, 40, 50, 10, 20, 30, 40}, receiverOf(50)},
		{"a bridge over all", impl.Recv{}, []int{10, 20, 30, 40, 50, 60, 5, 65}, receiverOf(0, 5, 65)},
		{"into others", ordinaryReceiver(), []int{100, 150, 150, 200, 300, 350, 360, 400, 690, 800}, receiverOf(350, 360, 500, 600, 800)},
		{"from end to end", impl.Recv{}, []int{0, 1, 1, mostTime - 1, mostTime - 1, mostTime}, receiverOf(mostTime)},
	} {
		if union := unionOf(c.r, receiverOf(0, c.ends...).Spans); !sameReceiver(union, c.want) {
			t.Errorf("%s: %v, want %v", c.name, union, c.want)
		}
		checkEveryOrder(t, c.r, c.ends...)
	}
}

// Promise 13: segments of all forms in every order, as many as there is room for, from receivers of all forms on.
func TestEveryOrderOfAllForms(t *testing.T) {
	d := newDice()
	for range 150 {
		r := anyReceiver(d)
		var ends []int
		for range min(6, 8-len(r.Spans)) { // each makes at most one span more
			from, to := anySegment(d, r)
			from = brought(from, 0, mostTime-1)
			ends = append(ends, from, brought(to, from+1, mostTime))
		}
		checkEveryOrder(t, r, ends...)
	}
}

// Promise 13: eight segments in every order, which may all be apart.
func TestEveryOrderOfEight(t *testing.T) {
	checkEveryOrder(t, impl.Recv{}, 10, 20, 30, 40, 50, 60, 70, 80, 90, 100, 110, 120, 130, 140, 150, 160)
}

// Promise 13: where there is no room, the order does play a part; what was refused comes again, and all is there.
func TestOrdersWithoutRoom(t *testing.T) {
	var list []impl.Span
	for i := range 60 {
		list = append(list, impl.Span{From: 10 * i, To: 10*i + 10})
	}
	d := newDice()
	refusals := 0
	for range 300 {
		var r impl.Recv
		waiting := d.order(len(list))
		for len(waiting) > 0 {
			i := waiting[0]
			waiting = waiting[1:]
			after, ok := checkSeg(t, r, list[i].From, list[i].To)
			if !ok {
				refusals++
				waiting = append(waiting, i)
			}
			if t.Failed() {
				t.FailNow()
			}
			r = after
		}
		if !sameReceiver(r, receiverOf(600)) {
			t.Fatalf("all came: %v", r)
		}
	}
	if refusals < 100 {
		t.Error("too few had no room:", refusals)
	}
}

// Promise 13: a long way: segments of all sizes come late, twice and not at all, and come again, until all is there.
func TestLongWaysOfReceivers(t *testing.T) {
	d := newDice()
	for _, size := range []int{1, 7, 1460, 1000000000} {
		var r impl.Recv
		sum, refusals := 0, 0
		for range 20000 {
			last := slices.Max(endsOf(r))
			from := d.one(r.Next, max(0, r.Next-d.below(size+1)), r.Next+d.below(size+1), last+d.below(2*size+1), last+1, last+1)
			to := from + 1 + d.below(size)
			if to > mostTime {
				from, to = r.Next, mostTime
			}
			if from == mostTime {
				break
			}
			after, ok := checkSeg(t, r, from, to)
			if !ok {
				refusals++
			}
			sum += after.Next - r.Next
			if t.Failed() || ok && after.Next < to && !impl.RecvHas(after, to-1) {
				t.Fatalf("RecvSeg(%v, %d, %d) = %v", r, from, to, after)
			}
			r = after
		}
		if refusals < 100 || sum != r.Next || sum < 1000 {
			t.Errorf("segments of at most %d: %d had no room, %v, %d", size, refusals, r, sum)
		}
	}
}

// Promise 13: whoever sends just what lacks fills all holes, each with one segment, in whatever order.
func TestHolesThatAreFilled(t *testing.T) {
	d := newDice()
	for range 3000 {
		was := anyReceiver(d)
		last := slices.Max(endsOf(was))
		r, lacks := was, impl.Holes(was)
		for _, i := range d.order(len(lacks)) {
			after, ok := checkSeg(t, r, lacks[i].From, lacks[i].To)
			if !ok || len(impl.Holes(after)) != len(impl.Holes(r))-1 {
				t.Fatalf("RecvSeg(%v, %d, %d) = %v, %v", r, lacks[i].From, lacks[i].To, after, ok)
			}
			r = after
		}
		if !sameReceiver(r, receiverOf(last)) {
			t.Fatalf("from %v on, without holes: %v", was, r)
		}
	}
}

// No function keeps anything: answers are the same whatever was asked ahead.
func TestReceiversKeepNothing(t *testing.T) {
	d := newDice()
	var list, first []impl.Recv
	for range 1000 {
		r := anyReceiver(d)
		got, _, _ := impl.RecvSeg(r, 100, 200)
		list, first = append(list, r), append(first, got)
	}
	for i := len(list) - 1; i >= 0; i-- {
		impl.RecvOk(receiverOf(5, 5, 5))
		impl.RecvSeg(fullReceiver(), 12, 18)
		impl.Holes(receiverOf(-1, 7, 6))
		if got, _, _ := impl.RecvSeg(list[i], 100, 200); !sameReceiver(got, first[i]) {
			t.Fatalf("RecvSeg was %v, is %v", first[i], got)
		}
	}
}
