package tests

import (
	"math"
	"slices"
	"testing"

	"loop.example/g00453/impl"
)

// segCase tells by hand what a segment makes of r.
type segCase struct {
	name     string
	r        impl.Recv
	from, to int
	want     impl.Recv
	more     int
}

func checkSegs(t *testing.T, list []segCase) {
	t.Helper()
	for _, c := range list {
		got, ok := checkSeg(t, c.r, c.from, c.to)
		checkBytes(t, c.r, got, c.from, c.to)
		_, n, _ := impl.RecvSeg(c.r, c.from, c.to)
		if !ok || n != c.more || !sameReceiver(got, c.want) {
			t.Errorf("%s: RecvSeg(%v, %d, %d) = %v, %d, %v, want %v, %d", c.name, c.r, c.from, c.to, got, n, ok, c.want, c.more)
		}
	}
}

// Promise 13: a segment that lies below Next, that ends there, that begins there, one below and one above.
func TestSegmentsAtNext(t *testing.T) {
	r, empty := ordinaryReceiver(), impl.Recv{}
	checkSegs(t, []segCase{
		{"below Next", r, 10, 50, r, 0}, {"the first byte", r, 0, 1, r, 0}, {"all below Next", r, 0, 100, r, 0}, {"ends at Next", r, 50, 100, r, 0}, {"ends one below Next", r, 50, 99, r, 0}, {"the last byte below Next", r, 99, 100, r, 0},
		{"ends one above Next", r, 50, 101, receiverOf(101, 200, 300, 400, 500, 600, 700), 1}, {"begins at Next", r, 100, 150, receiverOf(150, 200, 300, 400, 500, 600, 700), 50}, {"one byte at Next", r, 100, 101, receiverOf(101, 200, 300, 400, 500, 600, 700), 1},
		{"begins one below Next", r, 99, 150, receiverOf(150, 200, 300, 400, 500, 600, 700), 50}, {"begins one above Next", r, 101, 150, receiverOf(100, 101, 150, 200, 300, 400, 500, 600, 700), 0}, {"begins at 0", r, 0, 150, receiverOf(150, 200, 300, 400, 500, 600, 700), 50},
		{"nothing yet, from 0 on", empty, 0, 10, receiverOf(10), 10}, {"nothing yet, the first byte", empty, 0, 1, receiverOf(1), 1}, {"nothing yet, the second byte", empty, 1, 2, receiverOf(0, 1, 2), 0}, {"nothing yet, further on", empty, 10, 20, receiverOf(0, 10, 20), 0},
		{"no spans, behind", receiverOf(10), 20, 30, receiverOf(10, 20, 30), 0}, {"no spans, at Next", receiverOf(10), 10, 30, receiverOf(30), 20}, {"no spans, below Next", receiverOf(10), 3, 7, receiverOf(10), 0},
	})
}

// Promise 13: from Next on up to the first span, one below and one above, and on to others.
func TestSegmentsFromNextToSpans(t *testing.T) {
	r := ordinaryReceiver()
	checkSegs(t, []segCase{
		{"up to one below a span", r, 100, 199, receiverOf(199, 200, 300, 400, 500, 600, 700), 99}, {"up to a span", r, 100, 200, receiverOf(300, 400, 500, 600, 700), 200}, {"into a span by one", r, 100, 201, receiverOf(300, 400, 500, 600, 700), 200}, {"into a span", r, 50, 250, receiverOf(300, 400, 500, 600, 700), 200},
		{"up to one below its To", r, 100, 299, receiverOf(300, 400, 500, 600, 700), 200}, {"up to its To", r, 100, 300, receiverOf(300, 400, 500, 600, 700), 200}, {"one above its To", r, 100, 301, receiverOf(301, 400, 500, 600, 700), 201},
		{"one below the second", r, 100, 399, receiverOf(399, 400, 500, 600, 700), 299}, {"up to the second", r, 100, 400, receiverOf(500, 600, 700), 400}, {"all but the last", r, 0, 599, receiverOf(599, 600, 700), 499}, {"up to the last", r, 0, 600, receiverOf(700), 600}, {"all", r, 0, 700, receiverOf(700), 600}, {"more than all", r, 0, 701, receiverOf(701), 601}, {"far more than all", r, 100, 5000, receiverOf(5000), 4900},
		{"fills the last hole", receiverOf(200, 300, 400), 200, 300, receiverOf(400), 200}, {"fills more than the last hole", receiverOf(200, 300, 400), 150, 350, receiverOf(400), 200}, {"all but one byte of the last hole, at its end", receiverOf(200, 300, 400), 200, 299, receiverOf(299, 300, 400), 99}, {"all but one byte of the last hole, at its beginning", receiverOf(200, 300, 400), 201, 300, receiverOf(200, 201, 400), 0},
	})
}

// Promise 13: a segment that touches a span at its From or at its To, that lies within one, that covers one and several.
func TestSegmentsAtSpans(t *testing.T) {
	r := ordinaryReceiver()
	checkSegs(t, []segCase{
		{"apart from all", r, 101, 199, receiverOf(100, 101, 199, 200, 300, 400, 500, 600, 700), 0}, {"touches From", r, 150, 200, receiverOf(100, 150, 300, 400, 500, 600, 700), 0}, {"one below From", r, 150, 199, receiverOf(100, 150, 199, 200, 300, 400, 500, 600, 700), 0}, {"one above From", r, 150, 201, receiverOf(100, 150, 300, 400, 500, 600, 700), 0},
		{"touches To", r, 300, 350, receiverOf(100, 200, 350, 400, 500, 600, 700), 0}, {"one above To", r, 301, 350, receiverOf(100, 200, 300, 301, 350, 400, 500, 600, 700), 0}, {"one below To", r, 299, 350, receiverOf(100, 200, 350, 400, 500, 600, 700), 0},
		{"within", r, 210, 290, r, 0}, {"just a span", r, 200, 300, r, 0}, {"a span but for its first byte", r, 201, 300, r, 0}, {"a span but for its last byte", r, 200, 299, r, 0}, {"one byte within", r, 250, 251, r, 0}, {"within the second", r, 410, 490, r, 0}, {"just the last", r, 600, 700, r, 0},
		{"covers one, both ends", r, 150, 350, receiverOf(100, 150, 350, 400, 500, 600, 700), 0}, {"covers one, by one byte", r, 199, 301, receiverOf(100, 199, 301, 400, 500, 600, 700), 0}, {"covers the second", r, 350, 550, receiverOf(100, 200, 300, 350, 550, 600, 700), 0}, {"covers the last", r, 550, 750, receiverOf(100, 200, 300, 400, 500, 550, 750), 0},
		{"covers two", r, 150, 550, receiverOf(100, 150, 550, 600, 700), 0}, {"covers all", r, 101, 701, receiverOf(100, 101, 701), 0}, {"just all spans", r, 200, 700, receiverOf(100, 200, 700), 0}, {"from one into another", r, 250, 450, receiverOf(100, 200, 500, 600, 700), 0}, {"from the first into the last", r, 250, 650, receiverOf(100, 200, 700), 0}, {"from a To to a From over one", r, 300, 600, receiverOf(100, 200, 700), 0},
	})
}

// Promise 13: a segment that fills a hole, all but a byte of it, and one behind all.
func TestSegmentsInHoles(t *testing.T) {
	r := ordinaryReceiver()
	checkSegs(t, []segCase{
		{"fills a hole", r, 300, 400, receiverOf(100, 200, 500, 600, 700), 0}, {"fills more than a hole", r, 299, 401, receiverOf(100, 200, 500, 600, 700), 0}, {"all but its first byte", r, 301, 400, receiverOf(100, 200, 300, 301, 500, 600, 700), 0}, {"all but its last byte", r, 300, 399, receiverOf(100, 200, 399, 400, 500, 600, 700), 0}, {"all but both", r, 301, 399, receiverOf(100, 200, 300, 301, 399, 400, 500, 600, 700), 0},
		{"one byte of it", r, 350, 351, receiverOf(100, 200, 300, 350, 351, 400, 500, 600, 700), 0}, {"its first byte", r, 300, 301, receiverOf(100, 200, 301, 400, 500, 600, 700), 0}, {"its last byte", r, 399, 400, receiverOf(100, 200, 300, 399, 500, 600, 700), 0}, {"the last hole", r, 500, 600, receiverOf(100, 200, 300, 400, 700), 0},
		{"behind all", r, 800, 900, receiverOf(100, 200, 300, 400, 500, 600, 700, 800, 900), 0}, {"at the last To", r, 700, 900, receiverOf(100, 200, 300, 400, 500, 600, 900), 0}, {"one above the last To", r, 701, 900, receiverOf(100, 200, 300, 400, 500, 600, 700, 701, 900), 0}, {"one below the last To", r, 699, 900, receiverOf(100, 200, 300, 400, 500, 600, 900), 0},
	})
}

// Promise 13: to at MaxTime and one below; the whole of all bytes.
func TestSegmentsAtTheEnd(t *testing.T) {
	r, end := ordinaryReceiver(), mostTime
	checkSegs(t, []segCase{
		{"up to the end", r, 800, end, receiverOf(100, 200, 300, 400, 500, 600, 700, 800, end), 0}, {"up to one below the end", r, 800, end - 1, receiverOf(100, 200, 300, 400, 500, 600, 700, 800, end-1), 0}, {"the last byte", r, end - 1, end, receiverOf(100, 200, 300, 400, 500, 600, 700, end-1, end), 0}, {"all there is", r, 0, end, receiverOf(end), end - 100}, {"all that lacks", r, 100, end, receiverOf(end), end - 100},
		{"nothing yet, all", impl.Recv{}, 0, end, receiverOf(end), end}, {"nothing yet, the last byte", impl.Recv{}, end - 1, end, receiverOf(0, end-1, end), 0}, {"nothing yet, all but the first byte", impl.Recv{}, 1, end, receiverOf(0, 1, end), 0}, {"the first byte is the last", receiverOf(0, 1, end), 0, 1, receiverOf(end), end},
		{"all is there", receiverOf(end), 0, end, receiverOf(end), 0}, {"all is there, the last byte", receiverOf(end), end - 1, end, receiverOf(end), 0}, {"all is there, the first byte", receiverOf(end), 0, 1, receiverOf(end), 0}, {"one byte lacks", receiverOf(end - 1), end - 1, end, receiverOf(end), 1}, {"one byte lacks within", receiverOf(end-2, end-1, end), end - 2, end - 1, receiverOf(end), 2},
	})
}

// Promise 13: a from, or a to, that is none, with the zero values; r may be whatever is RecvOk.
func TestNoSegments(t *testing.T) {
	end := mostTime
	for _, r := range []impl.Recv{{}, ordinaryReceiver(), fullReceiver(), receiverOf(end)} {
		for _, c := range [][2]int{
			{-1, 10}, {-1, 0}, {-1, -1}, {-1, end}, {-1, end + 1}, {-2, -1}, {math.MinInt, 10}, {math.MinInt, math.MaxInt}, {math.MinInt, math.MinInt + 1},
			{50, 50}, {50, 49}, {50, 0}, {50, -1}, {0, 0}, {0, -1}, {1, 0}, {100, 100}, {200, 200}, {300, 300}, {700, 700}, {900, 900}, {50, math.MinInt},
			{50, end + 1}, {0, end + 1}, {end, end + 1}, {end - 1, end + 1}, {50, math.MaxInt}, {0, math.MaxInt}, {end, end}, {end + 1, end + 2}, {end + 1, end}, {end, end - 1}, {math.MaxInt, math.MaxInt}, {math.MaxInt - 1, math.MaxInt}, {math.MaxInt, math.MinInt},
		} {
			if got, n, ok := impl.RecvSeg(r, c[0], c[1]); ok || n != 0 || !sameReceiver(got, impl.Recv{}) {
				t.Errorf("RecvSeg(%v, %d, %d) = %v, %d, %v", r, c[0], c[1], got, n, ok)
			}
		}
		for _, c := range [][2]int{{0, 1}, {50, 51}, {0, end}, {end - 1, end}} {
			if got, n, ok := impl.RecvSeg(r, c[0], c[1]); sameReceiver(got, impl.Recv{}) || !ok && (n != 0 || !sameReceiver(got, r)) {
				t.Errorf("RecvSeg(%v, %d, %d) = %v, %d, %v", r, c[0], c[1], got, n, ok)
			}
		}
	}
}

// Promise 13: a segment that makes MaxSpans spans is taken, one that makes one more is not: r stays what it was.
func TestRoomForSpans(t *testing.T) {
	full := fullReceiver()
	for _, c := range [][2]int{{11, 12}, {11, 19}, {12, 18}, {15, 16}, {31, 39}, {35, 36}, {31, 32}, {38, 39}, {72, 78}, {151, 159}, {171, 172}, {171, mostTime}, {500, 600}, {mostTime - 1, mostTime}} {
		got, n, ok := impl.RecvSeg(full, c[0], c[1])
		if ok || n != 0 || !sameReceiver(got, fullReceiver()) {
			t.Errorf("RecvSeg of a full one, %d, %d = %v, %d, %v", c[0], c[1], got, n, ok)
		}
		for i := range full.Spans {
			seven := clonedReceiver(full)
			seven.Spans = slices.Delete(seven.Spans, i, i+1)
			if after, ok := checkSeg(t, seven, c[0], c[1]); !ok {
				t.Errorf("RecvSeg(%v, %d, %d) = %v, false", seven, c[0], c[1], after)
			}
		}
	}
	rest := []int{60, 70, 80, 90, 100, 110, 120, 130, 140, 150, 160, 170}
	with := func(next int, ends ...int) impl.Recv { return receiverOf(next, append(ends, rest...)...) }
	checkSegs(t, []segCase{
		{"below Next", full, 0, 10, full, 0}, {"within a span", full, 22, 28, full, 0}, {"at Next", full, 10, 15, with(15, 20, 30, 40, 50), 5}, {"up to one below a span", full, 10, 19, with(19, 20, 30, 40, 50), 9}, {"up to a span", full, 10, 20, with(30, 40, 50), 20}, {"touches the first", full, 11, 20, with(10, 11, 30, 40, 50), 0},
		{"touches To", full, 30, 35, with(10, 20, 35, 40, 50), 0}, {"touches From", full, 35, 40, with(10, 20, 30, 35, 50), 0}, {"fills a hole", full, 30, 40, with(10, 20, 50), 0}, {"covers one", full, 15, 35, with(10, 15, 35, 40, 50), 0}, {"covers two", full, 15, 55, with(10, 15, 55), 0}, {"from one into another", full, 25, 45, with(10, 20, 50), 0},
		{"at the last To", full, 170, 180, receiverOf(10, append([]int{20, 30, 40, 50}, append(slices.Clone(rest[:11]), 180)...)...), 0}, {"all", full, 0, 1000, receiverOf(1000), 990}, {"all spans", full, 12, 175, receiverOf(10, 12, 175), 0},
	})
}

// allReceivers calls one with each receiver of so many bytes, and with which bytes it has.
func allReceivers(count int, one func(r impl.Recv, flags []bool)) {
	var places []int
	for i := range count + 1 {
		places = append(places, i)
	}
	for bits := range 1 << count {
		flags := make([]bool, count)
		for i := range flags {
			flags[i] = bits>>i&1 == 1
		}
		one(toldReceiver(places, flags), flags)
	}
}

// Promise 13: all receivers of 10 bytes, with all segments, byte by byte ahead of each and behind it, and their holes.
func TestAllSmallReceivers(t *testing.T) {
	const count = 10
	allReceivers(count, func(r impl.Recv, flags []bool) {
		if !impl.RecvOk(r) {
			t.Fatalf("it is not RecvOk: %v", r)
		}
		has := func(r impl.Recv) (list []bool) {
			for at := -2; at < count+2; at++ {
				list = append(list, impl.RecvHas(r, at))
			}
			return list
		}
		ahead := append(append([]bool{false, false}, flags...), false, false)
		if got := has(r); !slices.Equal(got, ahead) {
			t.Fatalf("%v has %v, want %v", r, got, ahead)
		}
		checkHoles(t, r)
		for from := range count {
			for to := from + 1; to <= count; to++ {
				behind := slices.Clone(ahead)
				for at := from; at < to; at++ {
					behind[at+2] = true
				}
				after, ok := checkSeg(t, r, from, to)
				if got := has(after); !ok || !slices.Equal(got, behind) {
					t.Fatalf("behind RecvSeg(%v, %d, %d) = %v: %v, want %v", r, from, to, after, got, behind)
				}
			}
		}
		if t.Failed() {
			t.FailNow()
		}
	})
}

// anyReceiver has up to MaxSpans spans, close to each other or far, at the ends too.
func anyReceiver(d *dice) impl.Recv {
	count := d.one(0, 1, 2, 3, 5, 7, 8, 8, 8)
	at := d.one(0, 0, 1, 50, d.below(1000), mostTime/2)
	step := d.one(1, 2, 3, 20, 1000, 10000000000)
	ends := []int{}
	next := at
	for range 2 * count {
		at += 1 + d.below(step)
		ends = append(ends, at)
	}
	r := receiverOf(next, ends...)
	if shift := mostTime - at; d.below(4) == 0 { // the last To, or Next, is MaxTime
		r.Next += shift
		for i := range r.Spans {
			r.Spans[i].From += shift
			r.Spans[i].To += shift
		}
	}
	return r
}

func anySegment(d *dice, r impl.Recv) (from, to int) {
	list := endsOf(r)
	near := func() int { return list[d.below(len(list))] + d.below(3) - 1 }
	from = d.one(near(), near(), near()-d.below(30), d.below(mostTime), 0)
	to = d.one(near(), near(), from+1, from+1+d.below(30), d.below(mostTime), mostTime)
	if from > to && d.below(10) > 0 {
		from, to = to, from
	}
	return from, to
}

// Promise 13: receivers of all forms, with segments of all kinds.
func TestReceiversOfAllForms(t *testing.T) {
	d := newDice()
	kinds := map[string]int{}
	for range 60000 {
		r := anyReceiver(d)
		from, to := anySegment(d, r)
		got, ok := checkSeg(t, r, from, to)
		well := fits(from, 0, to-1) && fits(to, 1, mostTime)
		if ok {
			checkBytes(t, r, got, from, to)
			checkHoles(t, got)
		}
		if t.Failed() {
			t.FailNow()
		}
		less := len(r.Spans) - len(got.Spans)
		for kind, is := range map[string]bool{
			"no segment": !well, "no room": well && !ok, "one span more": ok && less == -1, "nothing new": ok && sameReceiver(got, r), "a longer span": ok && less == 0 && got.Next == r.Next && !sameReceiver(got, r),
			"one span less": ok && less == 1, "many less": ok && less > 3, "Next goes on": ok && got.Next > r.Next && less == 0, "Next goes over a span": ok && got.Next > r.Next && less > 0, "all is put together": ok && len(got.Spans) == 0 && less > 0, "up to the end": ok && to == mostTime,
		} {
			if is {
				kinds[kind]++
			}
		}
	}
	if len(kinds) != 11 {
		t.Error("one kind is missing:", kinds)
	}
	for kind, count := range kinds {
		if count < 300 {
			t.Error("too few of one kind:", kind, count)
		}
	}
}

// spareReceiver has its spans with spare room behind them, which is filled with more that would fit.
func spareReceiver(r impl.Recv) impl.Recv {
	whole := slices.Clone(r.Spans)
	for i := range 10 {
		whole = append(whole, impl.Span{From: mostTime - 40 + 2*i, To: mostTime - 39 + 2*i})
	}
	return impl.Recv{Next: r.Next, Spans: whole[:len(r.Spans)]}
}

func checkSpareReceiver(t *testing.T, r, was impl.Recv, name string) {
	t.Helper()
	if !sameReceiver(r, was) {
		t.Errorf("%s: written into the argument: %v", name, r)
	}
	for i, s := range r.Spans[len(r.Spans) : len(r.Spans)+10] {
		if s.From != mostTime-40+2*i || s.To != mostTime-39+2*i {
			t.Errorf("%s: written behind the argument: %v", name, s)
		}
	}
}

// overwriteSpans fills an answer and all the room behind it, and adds to it.
func overwriteSpans(t *testing.T, list []impl.Span, name string) {
	t.Helper()
	whole := list[:cap(list)]
	for i := range whole {
		if i >= len(list) && whole[i].From >= mostTime-40 {
			t.Errorf("%s: spare room is handed out: %v", name, whole)
		}
		whole[i] = impl.Span{From: -1, To: -2}
	}
	_ = append(list, impl.Span{From: -3, To: -4})
}

// Answers share nothing with arguments, whether a segment was taken or had no room, and nothing is written into these or behind them.
func TestReceiversAreNewMemory(t *testing.T) {
	d := newDice()
	count := [2]int{}
	for range 10000 {
		was := anyReceiver(d)
		if last := slices.Max(endsOf(was)); last > mostTime-50 {
			continue // the room behind would not fit there
		}
		r := spareReceiver(was)
		from, to := anySegment(d, was)
		want, _, _ := impl.RecvSeg(was, from, to)
		got, _, ok := impl.RecvSeg(r, from, to)
		if !sameReceiver(got, want) {
			t.Errorf("what lies behind the length was read: %v, want %v", got, want)
		}
		if ok {
			count[0]++
		} else if len(want.Spans) > 0 {
			count[1]++
		}
		overwriteSpans(t, got.Spans, "RecvSeg")
		checkSpareReceiver(t, r, was, "RecvSeg")
		holes := impl.Holes(r)
		if !slices.Equal(holes, holesOf(was)) {
			t.Errorf("what lies behind the length was read: %v", holes)
		}
		overwriteSpans(t, holes, "Holes")
		checkSpareReceiver(t, r, was, "Holes")
		if again := impl.Holes(r); !slices.Equal(again, holesOf(was)) {
			t.Errorf("two answers share memory: %v", again)
		}
		if impl.RecvHas(r, mostTime-40) || !impl.RecvOk(r) {
			t.Errorf("what lies behind the length was read: %v", r)
		}
		checkSpareReceiver(t, r, was, "asking")
		if t.Failed() {
			t.FailNow()
		}
	}
	if count[0] < 1000 || count[1] < 300 {
		t.Error("too few of one kind:", count)
	}
}

// A list that is empty and one that is nil are the same.
func TestEmptySpansAreNil(t *testing.T) {
	for _, next := range []int{0, 1, 100, mostTime} {
		a, b := impl.Recv{Next: next}, impl.Recv{Next: next, Spans: []impl.Span{}}
		checkReceiver(t, a, "nil")
		checkReceiver(t, b, "empty")
		if len(impl.Holes(a)) != 0 || len(impl.Holes(b)) != 0 {
			t.Error("Holes tells them apart")
		}
	}
}
