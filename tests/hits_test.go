package tests

import (
	"slices"
	"testing"

	"loop.example/g00453/impl"
)

type outcome struct {
	codel impl.Codel
	rest  impl.Fifo
	drops []impl.Pkt
	first impl.Pkt
	ok    bool
}

func popped(c impl.Codel, f impl.Fifo, now int) outcome {
	codel, rest, drops, first, ok := impl.CodelPop(c, f, now)
	return outcome{codel, rest, drops, first, ok}
}

func (o outcome) same(other outcome) bool {
	return o.codel == other.codel && sameQueue(o.rest, other.rest) && slices.Equal(o.drops, other.drops) && o.first == other.first && o.ok == other.ok
}

// hits is CodelPop of what is as it should be, by another road: it tells how many are dropped and whether the next is marked.
func hits(c impl.Codel, pkts []impl.Pkt, now int) (impl.Codel, int, bool) {
	c, late := lateness(c, pkts, now)
	if !late {
		c.Dropping = false
		return c, 0, false
	}
	if !c.Dropping {
		drops, marks := 0, pkts[0].Ecn > 0
		if !marks {
			drops = 1
			c, _ = lateness(c, pkts[1:], now)
		}
		if c.Count < c.Last+2 || now >= c.Next+16*c.Interval {
			c.Count, c.Last = 1, 0
		}
		c.Count -= c.Last
		if c.Last = c.Count; c.Count == 1 {
			c.Next = now + c.Interval
		} else {
			c.Next = now + pace(c.Interval, c.Count)
		}
		c.Dropping = true
		return c, drops, marks
	}
	for i, p := range pkts {
		if now < c.Next {
			return c, i, false
		}
		if c.Count < 1073741824 {
			c.Count++
		}
		if p.Ecn > 0 {
			c.Next += pace(c.Interval, c.Count)
			return c, i, true
		}
		if c, late = lateness(c, pkts[i+1:], now); !late {
			c.Dropping = false
			return c, i + 1, false
		}
		c.Next += pace(c.Interval, c.Count)
	}
	panic("an empty one is late")
}

func outOf(c impl.Codel, f impl.Fifo, now int) outcome {
	codel, count, marks := hits(c, f.Pkts, now)
	o := outcome{codel: codel, rest: impl.Fifo{Limit: f.Limit}, drops: f.Pkts[:count]}
	if left := f.Pkts[count:]; len(left) > 0 {
		o.first, o.rest.Pkts, o.ok = left[0], left[1:], true
		if marks {
			o.first.Ecn = 3
		}
	}
	return o
}

// checkWhole asks the promise itself: who is dropped knows no marks, who is marked does, and all else is what it was.
func checkWhole(t *testing.T, f impl.Fifo, o outcome) {
	t.Helper()
	for _, p := range o.drops {
		if p.Ecn != impl.EcNot {
			t.Errorf("%v knows marks and was dropped", p)
		}
	}
	all := slices.Clone(o.drops)
	if o.ok {
		first := o.first
		if was := f.Pkts[min(len(o.drops), len(f.Pkts)-1)]; first.Ecn != was.Ecn {
			if first.Ecn != impl.EcCe || was.Ecn == impl.EcNot {
				t.Errorf("%v went out as %v", was, first)
			}
			first.Ecn = was.Ecn
		}
		all = append(all, first)
	}
	if all = append(all, o.rest.Pkts...); !slices.Equal(all, f.Pkts) || o.rest.Limit != f.Limit || o.ok != (len(f.Pkts) > len(o.drops)) {
		t.Errorf("%v became %v", f, o)
	}
}

func checkOut(t *testing.T, c impl.Codel, f impl.Fifo, now int) {
	t.Helper()
	want, got := outOf(c, f, now), popped(c, f, now)
	if !got.same(want) || !impl.CodelOk(got.codel) || !impl.FifoOk(got.rest) {
		t.Errorf("CodelPop(%v, %v, %d) = %v, want %v", c, f, now, got, want)
	}
	checkWhole(t, f, got)
}

// checkHits tells by hand what becomes of the Codel, how many are dropped, and the Ecn of who goes out (-1: nobody does).
func checkHits(t *testing.T, c impl.Codel, f impl.Fifo, now int, want impl.Codel, drops int, ecn int) {
	t.Helper()
	checkOut(t, c, f, now)
	got := popped(c, f, now)
	if got.codel != want || len(got.drops) != drops || got.ok != (ecn >= 0) || got.ok && got.first.Ecn != ecn {
		t.Errorf("CodelPop(%v, .., %d) = %v, want %v, %d drops, %d", c, now, got, want, drops, ecn)
	}
}

// Promise 6: an empty queue; there is no Dropping, and First is 0.
func TestNobodyWaits(t *testing.T) {
	for _, now := range []int{0, 200, impl.MaxTime} {
		for _, flag := range []bool{false, true} {
			for _, limit := range []int{1, 7, 40} {
				c := ordinaryCodel()
				c.Dropping, c.Next = flag, now
				want := c
				want.First, want.Dropping = 0, false
				checkHits(t, c, impl.Fifo{Limit: limit}, now, want, 0, -1)
				checkHits(t, c, impl.Fifo{Limit: limit, Pkts: []impl.Pkt{}}, now, want, 0, -1)
			}
		}
	}
}

// Promise 6: if nobody waits for Target, all go out as they are.
func TestNobodyWaitsForTarget(t *testing.T) {
	for _, first := range []int{0, 1, 150} {
		for _, flag := range []bool{false, true} {
			c := impl.Codel{Target: 50, Interval: 100, First: first, Next: 0, Count: 9, Last: 2, Dropping: flag}
			f := plainQueue(40, impl.EcNot)
			for i := range f.Pkts {
				f.Pkts[i].At, f.Pkts[i].Ecn = 170+i/2, i%4
			}
			was := f.Pkts
			for i := range was {
				now := max(was[39].At, was[i].At+49)
				want := c
				want.First, want.Dropping = 0, false
				o := popped(c, f, now)
				if !o.ok || o.first != was[i] || len(o.drops) != 0 || o.codel != want || !slices.Equal(o.rest.Pkts, was[i+1:]) {
					t.Fatalf("the one at %d: CodelPop(%v, .., %d) = %v", i, c, now, o)
				}
				c, f = o.codel, o.rest
			}
		}
	}
}

// Promise 6: nobody is hit while there are at most 1500 bytes, or ahead of First.
func TestNotLateYet(t *testing.T) {
	for ecn := range 4 {
		for _, flag := range []bool{false, true} {
			c := impl.Codel{Target: 5, Interval: 100, First: 150, Next: 20, Count: 4, Last: 1, Dropping: flag}
			want := c
			want.Dropping = false
			checkHits(t, c, plainQueue(3, ecn), 149, want, 0, ecn)
			want.First = 0
			checkHits(t, c, plainQueue(1, ecn), 200, want, 0, ecn)
			checkHits(t, c, plainQueue(3, ecn), 4, want, 0, ecn)
			c.First, want.First = 0, 300
			checkHits(t, c, plainQueue(3, ecn), 200, want, 0, ecn)
		}
	}
}

// Promise 6: a packet of each Ecn as the first one, where Dropping begins and where it goes on.
func TestEachEcnIsHit(t *testing.T) {
	for ecn, after := range []int{0, 3, 3, 3} {
		f := plainQueue(4, impl.EcNot)
		f.Pkts[0].Ecn = ecn
		drops := 0
		if ecn == impl.EcNot {
			drops = 1
		}
		c := impl.Codel{Target: 5, Interval: 100, First: 150}
		checkHits(t, c, f, 150, impl.Codel{Target: 5, Interval: 100, First: 150, Next: 250, Count: 1, Last: 1, Dropping: true}, drops, after)
		c = impl.Codel{Target: 5, Interval: 100, First: 150, Next: 250, Count: 1, Last: 1, Dropping: true}
		checkHits(t, c, f, 250, impl.Codel{Target: 5, Interval: 100, First: 150, Next: 320, Count: 2, Last: 1, Dropping: true}, drops, after)
	}
}

// Promise 6: where Dropping begins, one is hit; who goes out behind a drop goes out as it is, even if Next is now.
func TestDroppingBeginsWithOne(t *testing.T) {
	for ecn := range 4 {
		f := plainQueue(5, ecn)
		f.Pkts[0].Ecn = impl.EcNot
		c := impl.Codel{Target: 1, Interval: 1, First: 150, Next: 150, Count: 9, Last: 1}
		checkHits(t, c, f, 150, impl.Codel{Target: 1, Interval: 1, First: 150, Next: 150, Count: 8, Last: 8, Dropping: true}, 1, ecn)
	}
}

// Promise 6: now at Next and one below it.
func TestNowAtNext(t *testing.T) {
	for ecn := range 4 {
		c := impl.Codel{Target: 5, Interval: 100, First: 150, Next: 250, Count: 3, Last: 1, Dropping: true}
		checkHits(t, c, plainQueue(4, ecn), 249, c, 0, ecn)
		want := c
		want.Next, want.Count = 300, 4
		drops, after := 1, impl.EcNot
		if ecn > 0 {
			drops, after = 0, impl.EcCe
		}
		checkHits(t, c, plainQueue(4, ecn), 250, want, drops, after)
		checkHits(t, c, plainQueue(4, ecn), 299, want, drops, after)
	}
}

// Promise 6: as long as now is not below Next, one after the other is dropped, up to one that is marked.
func TestManyAreDropped(t *testing.T) {
	c := impl.Codel{Target: 5, Interval: 100, First: 150, Next: 250, Count: 3, Last: 1, Dropping: true}
	want := c
	want.Next, want.Count = 250+50+44, 5
	checkHits(t, c, plainQueue(9, impl.EcNot), 300, want, 2, impl.EcNot)
	want.Next, want.Count = 250+50+44+40, 6
	checkHits(t, c, plainQueue(9, impl.EcNot), 344, want, 3, impl.EcNot)
	f := plainQueue(9, impl.EcNot)
	f.Pkts[2].Ecn = impl.EcOne
	checkHits(t, c, f, impl.MaxTime, want, 2, impl.EcCe)
	f.Pkts[1].Ecn = impl.EcCe
	want.Next, want.Count = 250+50+44, 5
	checkHits(t, c, f, impl.MaxTime, want, 1, impl.EcCe)
}

// Promise 6: a rest that is no longer late behind a drop, and one that still is.
func TestTheRestIsLookedAt(t *testing.T) {
	short := plainQueue(2, impl.EcNot) // the rest has few bytes
	young := plainQueue(4, impl.EcNot) // the rest has not waited for Target
	for i := range young.Pkts[1:] {
		young.Pkts[i+1].At = 246
	}
	for _, f := range []impl.Fifo{short, young} {
		c := impl.Codel{Target: 5, Interval: 100, First: 150, Next: 250, Count: 3, Last: 1, Dropping: true}
		checkHits(t, c, f, 250, impl.Codel{Target: 5, Interval: 100, Next: 250, Count: 4, Last: 1}, 1, impl.EcNot)
		c.Dropping = false
		checkHits(t, c, f, 250, impl.Codel{Target: 5, Interval: 100, Next: 320, Count: 2, Last: 2, Dropping: true}, 1, impl.EcNot)
	}
	young.Pkts[1].At, young.Pkts[2].At, young.Pkts[3].At = 245, 250, 250
	c := impl.Codel{Target: 5, Interval: 100, First: 150, Next: 250, Count: 3, Last: 1, Dropping: true}
	checkHits(t, c, young, 250, impl.Codel{Target: 5, Interval: 100, First: 150, Next: 300, Count: 4, Last: 1, Dropping: true}, 1, impl.EcNot)
	c.Dropping = false
	checkHits(t, c, young, 250, impl.Codel{Target: 5, Interval: 100, First: 150, Next: 320, Count: 2, Last: 2, Dropping: true}, 1, impl.EcNot)
}

// Promise 6: behind a mark nothing is looked at: First stays, though the rest is short.
func TestNoLookBehindAMark(t *testing.T) {
	for ecn := 1; ecn <= 3; ecn++ {
		c := impl.Codel{Target: 5, Interval: 100, First: 150, Next: 250, Count: 3, Last: 1, Dropping: true}
		checkHits(t, c, plainQueue(2, ecn), 250, impl.Codel{Target: 5, Interval: 100, First: 150, Next: 300, Count: 4, Last: 1, Dropping: true}, 0, impl.EcCe)
		c.Dropping = false
		checkHits(t, c, plainQueue(2, ecn), 250, impl.Codel{Target: 5, Interval: 100, First: 150, Next: 320, Count: 2, Last: 2, Dropping: true}, 0, impl.EcCe)
	}
}

// Promise 6: a queue of which all are dropped: Dropping begins by it, but does not go on.
func TestAllAreDropped(t *testing.T) {
	fat := impl.Fifo{Limit: 9, Pkts: []impl.Pkt{{Id: 7, Size: 1501}}}
	c := impl.Codel{Target: 5, Interval: 100, First: 150, Next: 200, Count: 3, Last: 1}
	checkHits(t, c, fat, 250, impl.Codel{Target: 5, Interval: 100, Next: 320, Count: 2, Last: 2, Dropping: true}, 1, -1)
	c.Dropping = true
	checkHits(t, c, fat, 250, impl.Codel{Target: 5, Interval: 100, Next: 200, Count: 4, Last: 1}, 1, -1)
	for count := 2; count <= 40; count++ {
		f := plainQueue(count-1, impl.EcNot)
		f.Pkts = append(f.Pkts, impl.Pkt{Id: 99, Size: 2000})
		c := impl.Codel{Target: 1, Interval: 10, First: 1, Next: 5, Count: 1, Last: 1, Dropping: true}
		o := popped(c, f, impl.MaxTime)
		if o.ok || len(o.drops) != count || len(o.rest.Pkts) != 0 || o.rest.Limit != 40 || o.first != (impl.Pkt{}) || o.codel.Dropping || o.codel.First != 0 || o.codel.Count != 1+count {
			t.Errorf("of %d: %v", count, o)
		}
		checkOut(t, c, f, impl.MaxTime)
	}
}

// Promise 6: Count less Last of 1 and of 2; now less Next of 16 Interval and one below.
func TestWhereCountGoesOn(t *testing.T) {
	for _, interval := range []int{5, 100, 1000} {
		edge := 16 * interval
		for _, c := range []struct{ count, last, since, want int }{
			{0, 0, 0, 1}, {1, 0, 0, 1}, {2, 0, 0, 2}, {3, 0, 0, 3}, {4, 3, 0, 1}, {5, 3, 0, 2}, {3, 5, 0, 1}, {5, 5, 0, 1}, {0, 1 << 30, 0, 1}, {1 << 30, 0, 0, 1 << 30}, {1 << 30, 1<<30 - 1, 0, 1}, {1 << 30, 1<<30 - 2, 0, 2},
			{9, 2, edge - 2, 7}, {9, 2, edge - 1, 7}, {9, 2, edge, 1}, {9, 2, edge + 1, 1}, {9, 2, 100 * edge, 1}, {9, 2, -1, 7}, {9, 2, -edge, 7}, {9, 2, -2 * edge, 7},
			{9, 8, edge - 1, 1}, {9, 7, edge - 1, 2}, {9, 7, edge, 1},
		} {
			now := 500 * interval * 16
			codel := impl.Codel{Target: 5, Interval: interval, First: 1, Next: now - c.since, Count: c.count, Last: c.last}
			want := impl.Codel{Target: 5, Interval: interval, First: 1, Next: now + pace(interval, c.want), Count: c.want, Last: c.want, Dropping: true}
			checkHits(t, codel, plainQueue(4, impl.EcNot), now, want, 1, impl.EcNot)
			checkHits(t, codel, plainQueue(4, impl.EcZero), now, want, 0, impl.EcCe)
		}
	}
	c := impl.Codel{Target: 5, Interval: 1000000000, First: 1, Next: 2 * impl.MaxTime, Count: 9, Last: 2}
	checkHits(t, c, plainQueue(4, impl.EcNot), 5, impl.Codel{Target: 5, Interval: 1000000000, First: 1, Next: 5 + pace(1000000000, 7), Count: 7, Last: 7, Dropping: true}, 1, impl.EcNot)
}

// Promise 6: a Count of 2^30 that is hit again, and one below it.
func TestCountsHaveAnEnd(t *testing.T) {
	for _, count := range []int{1<<30 - 2, 1<<30 - 1, 1 << 30} {
		c := impl.Codel{Target: 5, Interval: 1000000, First: 150, Next: 250, Count: count, Last: 1, Dropping: true}
		want := c
		want.Count, want.Next = min(1<<30, count+1), 250+30
		checkHits(t, c, plainQueue(4, impl.EcNot), 250, want, 1, impl.EcNot)
		checkHits(t, c, plainQueue(4, impl.EcOne), 250, want, 0, impl.EcCe)
		want.Count, want.Next = min(1<<30, count+3), 250+90
		checkHits(t, c, plainQueue(9, impl.EcNot), 250+60, want, 3, impl.EcNot)
	}
}

// Promise 6: the last times there are; what comes of them is CodelOk.
func TestTheLastTimes(t *testing.T) {
	for _, flag := range []bool{false, true} {
		for ecn := range 4 {
			for _, interval := range []int{5, 1000000000} {
				for _, count := range []int{0, 1, 1 << 30} {
					c := impl.Codel{Target: 5, Interval: interval, First: impl.MaxTime, Next: impl.MaxTime, Count: count, Dropping: flag}
					checkOut(t, c, plainQueue(40, ecn), impl.MaxTime)
					c.Next = 0
					checkOut(t, c, plainQueue(40, ecn), impl.MaxTime)
					c.First = 0
					checkOut(t, c, plainQueue(40, ecn), impl.MaxTime)
				}
			}
		}
	}
}

func TestHitsOfAllForms(t *testing.T) {
	list := noise(16 * 100000)
	kinds := map[string]int{}
	for i := 0; i < len(list); i += 16 {
		now := list[i] >> 4 & 4095
		c, f := anyCodel(list[i:i+6], now), anyLine(list[i+6:i+16], now)
		checkOut(t, c, f, now)
		o := popped(c, f, now)
		_, _, marks := hits(c, f.Pkts, now)
		switch {
		case marks && len(o.drops) > 0:
			kinds["drops and a mark"]++
		case marks:
			kinds["a mark"]++
		case len(o.drops) > 1:
			kinds["drops"]++
		case len(o.drops) == 1:
			kinds["a drop"]++
		default:
			kinds["nobody"]++
		}
		if len(o.drops) > 0 && !o.ok {
			kinds["all"]++
		}
		if len(o.drops) > 0 && !o.codel.Dropping {
			kinds["no longer late"]++
		}
		if t.Failed() {
			t.FailNow()
		}
	}
	for _, kind := range []string{"drops and a mark", "a mark", "drops", "a drop", "nobody", "all", "no longer late"} {
		if kinds[kind] < 100 {
			t.Error("too few of one kind:", kind, kinds[kind])
		}
	}
}

// Promise 6: a queue that stays late is hit sooner and sooner, and what is kept up goes on where it was.
func TestHitsComeSoonerAndSooner(t *testing.T) {
	for _, ecn := range []int{impl.EcNot, impl.EcOne} {
		c, _ := impl.CodelNew(5000000, 100000000)
		f := plainQueue(40, ecn)
		last, gap, count := 0, 1<<60, 0
		for now := 5000000; now < 4000000000; now += 250000 {
			o := popped(c, f, now)
			if len(o.drops) > 1 || !o.ok {
				t.Fatalf("at %d: %v", now, o)
			}
			if len(o.drops) > 0 || o.first.Ecn == impl.EcCe {
				if count > 0 && now-last > gap+500000 {
					t.Errorf("hit %d is %d behind the last one, that was %d", count, now-last, gap)
				}
				if count++; count > 1 {
					gap = now - last
				}
				last = now
			}
			c = o.codel
		}
		if count < 100 || gap > 20000000 {
			t.Error("too few were hit, or too seldom:", count, gap)
		}
	}
}

// Promise 6: one behind the other at one narrow place, whose queue swells and empties.
func TestPopsOneBehindTheOther(t *testing.T) {
	c, _ := impl.CodelNew(8, 40)
	f, _ := impl.FifoNew(30)
	now, drops, marks, calm := 0, 0, 0, 0
	for i, x := range noise(60000) {
		now += x & 3
		if x>>2&255 < 150-i/1000%2*90 {
			f, _ = impl.Push(f, impl.Pkt{Id: i, Flow: x & 15, Size: 200 + x>>10&1023, At: now, Ecn: x >> 20 & 3 * (x >> 22 & 1)})
		}
		if x>>30&3 > 0 {
			continue
		}
		checkOut(t, c, f, now)
		o := popped(c, f, now)
		drops += len(o.drops)
		if o.ok && o.first.Ecn != f.Pkts[len(o.drops)].Ecn {
			marks++
		}
		if !o.codel.Dropping {
			calm++
		}
		c, f = o.codel, o.rest
		if t.Failed() {
			t.FailNow()
		}
	}
	if drops < 100 || marks < 100 || calm < 1000 {
		t.Error("too few of one kind:", drops, marks, calm)
	}
}

// Answers share nothing with arguments or with each other, and nothing is written into these or behind them.
func TestHitsAreNewMemory(t *testing.T) {
	for _, flag := range []bool{false, true} {
		for ecn := range 4 {
			for count := range 6 {
				for marked := range 6 {
					was := plainQueue(count, impl.EcNot)
					if marked < count {
						was.Pkts[marked].Ecn = ecn
					}
					f := spare(was)
					c := impl.Codel{Target: 5, Interval: 100, First: 1, Next: 2, Count: 3, Dropping: flag}
					impl.Late(c, f, impl.MaxTime)
					checkSpare(t, f, was, "Late")
					o, want := popped(c, f, impl.MaxTime), outOf(c, was, impl.MaxTime)
					checkSpare(t, f, was, "CodelPop")
					if !o.same(want) {
						t.Errorf("what lies behind the length was read: %v, want %v", o, want)
					}
					overwrite(t, o.rest, "CodelPop's queue")
					if !slices.Equal(o.drops, want.drops) {
						t.Error("two lists of one answer share memory")
					}
					overwrite(t, impl.Fifo{Pkts: o.drops}, "CodelPop's drops")
					checkSpare(t, f, was, "what CodelPop answers")
				}
			}
		}
	}
}

// No function keeps anything: answers are the same whatever was asked ahead.
func TestCodelsKeepNothing(t *testing.T) {
	list := noise(16 * 1000)
	ask := func(i int) outcome {
		now := list[i] >> 4 & 4095
		return popped(anyCodel(list[i:i+6], now), anyLine(list[i+6:i+16], now), now)
	}
	var first []outcome
	for i := 0; i < len(list); i += 16 {
		first = append(first, ask(i))
	}
	for i := len(first) - 1; i >= 0; i-- {
		popped(impl.Codel{}, impl.Fifo{}, 0)
		popped(ordinaryCodel(), plainQueue(9, impl.EcNot), 500)
		if !ask(16 * i).same(first[i]) {
			t.Fatalf("CodelPop was %v, is %v", first[i], ask(16*i))
		}
	}
}
