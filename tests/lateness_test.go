package tests

import (
	"math"
	"slices"
	"testing"

	"loop.example/g00453/impl"
)

type codelField struct {
	name        string
	least, most int // beside the others as in ordinaryCodel
	of          func(c *impl.Codel) *int
}

func codelFields() []codelField {
	return []codelField{
		{"Target", 1, 100, func(c *impl.Codel) *int { return &c.Target }},
		{"Interval", 5, 1000000000, func(c *impl.Codel) *int { return &c.Interval }},
		{"First", 0, 2000000000000, func(c *impl.Codel) *int { return &c.First }},
		{"Next", 0, 2000000000000, func(c *impl.Codel) *int { return &c.Next }},
		{"Count", 0, 1073741824, func(c *impl.Codel) *int { return &c.Count }},
		{"Last", 0, 1073741824, func(c *impl.Codel) *int { return &c.Last }},
	}
}

func ordinaryCodel() impl.Codel {
	return impl.Codel{Target: 5, Interval: 100, First: 150, Next: 170, Count: 4, Last: 1}
}

// wrongCodels has those of which one field, or how two lie to each other, is not as it should be.
func wrongCodels() []impl.Codel {
	list := []impl.Codel{{}, {Dropping: true}, {Target: -5, Interval: -1}, {Target: math.MinInt, Interval: math.MaxInt}, {Target: 2000000000, Interval: 2000000000}}
	for _, c := range codelFields() {
		for _, v := range []int{c.least - 1, c.least - 2, -c.most, c.most + 1, c.most + 2, 1 << 48, 1 << 62, math.MaxInt, math.MinInt} {
			for _, flag := range []bool{false, true} {
				wrong := ordinaryCodel()
				wrong.Dropping = flag
				*c.of(&wrong) = v
				list = append(list, wrong)
			}
		}
	}
	return list
}

// plainQueue has count packets of 1000 bytes that came at 0.
func plainQueue(count int, ecn int) impl.Fifo {
	f := impl.Fifo{Limit: 40}
	for i := range count {
		f.Pkts = append(f.Pkts, impl.Pkt{Id: i, Size: 1000, Ecn: ecn})
	}
	return f
}

// pace is what Control adds, by another road.
func pace(interval, count int) int {
	root := cutOff(large(1<<32), large(max(count, 1)))
	root.Sqrt(root)
	return held(cutOff(root.Mul(root, large(interval)), large(impl.One)))
}

// lateness is Late of what is as it should be, by another road.
func lateness(c impl.Codel, pkts []impl.Pkt, now int) (impl.Codel, bool) {
	bytes := 0
	for _, p := range pkts {
		bytes += p.Size
	}
	switch {
	case bytes < 1501 || pkts[0].At+c.Target > now:
		c.First = 0
	case c.First == 0:
		c.First = now + c.Interval
	default:
		return c, c.First <= now
	}
	return c, false
}

func checkLate(t *testing.T, c impl.Codel, f impl.Fifo, now int) {
	t.Helper()
	want, late := lateness(c, f.Pkts, now)
	if got, is := impl.Late(c, f, now); got != want || is != late || !impl.CodelOk(got) {
		t.Errorf("Late(%v, %v, %d) = %v, %v, want %v, %v", c, f, now, got, is, want, late)
	}
}

// checkNoLook asks both that go by a queue for their fixed answers.
func checkNoLook(t *testing.T, c impl.Codel, f impl.Fifo, now int, name string) {
	t.Helper()
	if got, late := impl.Late(c, f, now); late || got != (impl.Codel{}) {
		t.Errorf("%s: Late(%v, %v, %d) = %v, %v", name, c, f, now, got, late)
	}
	if got, rest, drops, p, ok := impl.CodelPop(c, f, now); ok || got != (impl.Codel{}) || !isZeroQueue(rest) || len(drops) != 0 || p != (impl.Pkt{}) {
		t.Errorf("%s: CodelPop(%v, %v, %d) = %v, %v, %v, %v, %v", name, c, f, now, got, rest, drops, p, ok)
	}
}

func checkCodel(t *testing.T, c impl.Codel) {
	t.Helper()
	if !impl.CodelOk(c) {
		t.Errorf("%v: it is not CodelOk", c)
	}
	for _, now := range []int{0, 200, impl.MaxTime} {
		for _, flag := range []bool{false, true} {
			c.Dropping = flag
			checkLate(t, c, plainQueue(3, impl.EcNot), now)
			checkOut(t, c, plainQueue(3, impl.EcNot), now)
			checkOut(t, c, plainQueue(3, impl.EcOne), now)
		}
	}
}

func checkNoCodel(t *testing.T, c impl.Codel) {
	t.Helper()
	if impl.CodelOk(c) {
		t.Errorf("%v: it is CodelOk", c)
	}
	for _, now := range []int{0, 200, impl.MaxTime, -1} {
		for count := range 4 {
			checkNoLook(t, c, plainQueue(count, count), now, "a Codel that is none")
		}
	}
}

// Promise 6: each field at its least, at its most, one below and one above.
func TestCodelFields(t *testing.T) {
	checkCodel(t, ordinaryCodel())
	checkCodel(t, impl.Codel{Target: 1, Interval: 1})
	checkCodel(t, impl.Codel{Target: 1000000000, Interval: 1000000000, First: 2000000000000, Next: 2000000000000, Count: 1 << 30, Last: 1 << 30})
	for _, c := range codelFields() {
		for _, v := range []int{c.least, c.least + 1, c.most - 1, c.most} {
			codel := ordinaryCodel()
			*c.of(&codel) = v
			checkCodel(t, codel)
		}
	}
	for _, c := range wrongCodels() {
		checkNoCodel(t, c)
	}
}

// Promise 6: an Interval at Target, one below it and one above it.
func TestNewCodels(t *testing.T) {
	for _, c := range []struct {
		target, interval int
		want             bool
	}{
		{5000000, 100000000, true}, {1, 1, true}, {1, 2, true}, {1, 1000000000, true}, {1000000000, 1000000000, true}, {999999999, 1000000000, true}, {7, 7, true}, {7, 8, true},
		{0, 0, false}, {0, 1, false}, {-1, 1, false}, {7, 6, false}, {2, 1, false}, {1, 0, false}, {1000000000, 999999999, false},
		{1, 1000000001, false}, {1000000001, 1000000001, false}, {1000000001, 1000000000, false},
		{math.MinInt, 1, false}, {1, math.MaxInt, false}, {math.MaxInt, math.MaxInt, false}, {1, math.MinInt, false}, {math.MaxInt, math.MinInt, false}, {math.MinInt, math.MinInt, false},
	} {
		made := impl.Codel{Target: c.target, Interval: c.interval}
		var want impl.Codel
		if c.want {
			want = made
			checkCodel(t, made)
		} else {
			checkNoCodel(t, made)
		}
		if got, ok := impl.CodelNew(c.target, c.interval); ok != c.want || got != want {
			t.Errorf("CodelNew(%d, %d) = %v, %v", c.target, c.interval, got, ok)
		}
	}
}

func TestControlByHand(t *testing.T) {
	for _, c := range []struct{ t, interval, count, want int }{
		{10, 100, 4, 60}, {10, 100, 1, 110}, {10, 100, 0, 110}, {10, 100, 2, 80}, {10, 100, 3, 67}, {10, 100, 9, 43}, {0, 100, 16, 25},
		{0, 1, 0, 1}, {0, 1, 1, 1}, {0, 1, 2, 0}, {5, 1, 1 << 30, 5}, {0, 1000000000, 1 << 30, 30517}, {0, 1000000000, 1<<30 - 1, 30517},
		{impl.MaxTime, 1000000000, 1, 1001000000000}, {impl.MaxTime, 1, 0, 1000000000001}, {impl.MaxTime, 1000000000, 1 << 30, 1000000030517},
		{0, 100000000, 2, 70709228}, {0, 100000000, 3, 57734680}, {999999999999, 1, 1, 1000000000000},
	} {
		if got := impl.Control(c.t, c.interval, c.count); got != c.want {
			t.Errorf("Control(%d, %d, %d) = %d, want %d", c.t, c.interval, c.count, got, c.want)
		}
	}
}

// Promise 6: t of 0 and of MaxTime, interval of 1 and of 1000000000, count of 0, of 1 and of 2^30, one below and one above each.
func TestControlAtTheEnds(t *testing.T) {
	for _, at := range []int{0, 1, 12345, impl.MaxTime - 1, impl.MaxTime} {
		for _, interval := range []int{1, 2, 100, 100000000, 999999999, 1000000000} {
			for _, count := range []int{0, 1, 2, 3, 4, 65535, 65536, 1<<30 - 1, 1 << 30} {
				if got := impl.Control(at, interval, count); got != at+pace(interval, count) {
					t.Errorf("Control(%d, %d, %d) = %d", at, interval, count, got)
				}
			}
		}
	}
	check := func(at, interval, count int) {
		if got := impl.Control(at, interval, count); got != 0 {
			t.Errorf("Control(%d, %d, %d) = %d", at, interval, count, got)
		}
	}
	for _, wrong := range wrongNumbers(impl.MaxTime) {
		if wrong < 0 || wrong > impl.MaxTime {
			check(wrong, 100, 4)
		}
	}
	for _, wrong := range append(wrongNumbers(1000000000), 0) {
		check(10, wrong, 4)
	}
	for _, wrong := range wrongNumbers(1 << 30) {
		check(10, 100, wrong)
	}
	check(-1, 0, -1)
}

// Promise 6: the more were hit, the sooner the next one is.
func TestMoreHitsComeSooner(t *testing.T) {
	for _, interval := range []int{1, 7, 100, 100000000, 1000000000} {
		last := impl.Control(1000, interval, 1)
		if last != 1000+interval || impl.Control(1000, interval, 0) != last {
			t.Errorf("the first one of %d is at %d", interval, last)
		}
		for count := 2; count <= 1<<30; count += 1 + count/5000 {
			next := impl.Control(1000, interval, count)
			if next > last || next == last && interval >= 100000000 && count < 1000 || next != 1000+pace(interval, count) {
				t.Fatalf("behind %d hits it goes from %d to %d", count, last, next)
			}
			last = next
		}
	}
}

func TestControlOfAllForms(t *testing.T) {
	list := noise(3 * 20000)
	for i := 0; i < len(list); i += 3 {
		at, interval := list[i]&(1<<60-1)%(impl.MaxTime+1), 1+list[i+1]&(1<<60-1)%1000000000
		count := list[i+2] & (1<<30 - 1) >> (list[i] & 31)
		if got := impl.Control(at, interval, count); got != at+pace(interval, count) {
			t.Fatalf("Control(%d, %d, %d) = %d", at, interval, count, got)
		}
	}
}

// Promise 6: a wait of just Target and one below it.
func TestWaitsOfTarget(t *testing.T) {
	for _, target := range []int{1, 5, 100} {
		for _, at := range []int{0, 1, 77, impl.MaxTime - 100} {
			f := plainQueue(2, impl.EcNot)
			f.Pkts[0].At, f.Pkts[1].At = at, at
			now := at + target
			c := impl.Codel{Target: target, Interval: 100, First: 1, Next: 9, Count: 3, Last: 2}
			if got, late := impl.Late(c, f, now); late != (now >= 1) || got != c {
				t.Errorf("a wait of Target: Late(%v, %v, %d) = %v, %v", c, f, now, got, late)
			}
			want := c
			want.First = 0
			if got, late := impl.Late(c, f, now-1); late || got != want {
				t.Errorf("a wait of less than Target: Late(%v, %v, %d) = %v, %v", c, f, now-1, got, late)
			}
			c.First, want.First = 0, now+100
			if got, late := impl.Late(c, f, now); late || got != want {
				t.Errorf("the first wait of Target: Late(%v, %v, %d) = %v, %v", c, f, now, got, late)
			}
		}
	}
}

// Promise 6: the first one's wait counts, not that of another.
func TestTheFirstOneWaits(t *testing.T) {
	f := plainQueue(3, impl.EcNot)
	f.Pkts[1].At, f.Pkts[2].At = 200, 200
	if _, late := impl.Late(ordinaryCodel(), f, 200); !late {
		t.Error("the last one's wait counts")
	}
	f.Pkts[0].At = 196
	if got, late := impl.Late(ordinaryCodel(), f, 200); late || got.First != 0 {
		t.Error("nobody waits for Target:", got, late)
	}
}

// Promise 6: all of just 1500 bytes and of one more.
func TestSoFewBytes(t *testing.T) {
	for _, sizes := range [][]int{{1500}, {750, 750}, {1, 1499}, {1499, 1}, {500, 500, 500}, {1}, {1, 1}, {1499}} {
		f := impl.Fifo{Limit: 40}
		bytes := 0
		for i, size := range sizes {
			f.Pkts = append(f.Pkts, impl.Pkt{Id: i, Size: size})
			bytes += size
		}
		c := ordinaryCodel()
		want := c
		want.First = 0
		if got, late := impl.Late(c, f, 200); late || got != want {
			t.Errorf("with %v: Late answers %v, %v", sizes, got, late)
		}
		for i := range sizes {
			more := impl.Fifo{Pkts: slices.Clone(f.Pkts), Limit: 40}
			more.Pkts[i].Size += 1501 - bytes
			if more.Pkts[i].Size > 2000 {
				continue
			}
			if got, late := impl.Late(c, more, 200); !late || got != c {
				t.Errorf("with 1501 bytes: Late(%v, %v) answers %v, %v", c, more, got, late)
			}
		}
	}
}

// Promise 6: a First of 0, now at First and one below it.
func TestNowAtFirst(t *testing.T) {
	f := plainQueue(2, impl.EcNot)
	for _, now := range []int{5, 6, 1000, impl.MaxTime} {
		for _, c := range []struct {
			first int
			late  bool
			after int
		}{
			{0, false, now + 100}, {1, true, 1}, {now - 1, true, now - 1}, {now, true, now}, {now + 1, false, now + 1}, {now + 2, false, now + 2}, {2 * impl.MaxTime, false, 2 * impl.MaxTime},
		} {
			codel := ordinaryCodel()
			codel.First = c.first
			want := codel
			want.First = c.after
			if got, late := impl.Late(codel, f, now); late != c.late || got != want {
				t.Errorf("Late(%v, .., %d) = %v, %v", codel, now, got, late)
			}
		}
	}
	c := impl.Codel{Target: 1, Interval: 1000000000}
	if got, late := impl.Late(c, f, impl.MaxTime); late || got.First != 1001000000000 || !impl.CodelOk(got) {
		t.Error("the last First:", got, late)
	}
}

// Promise 6: now at the last one's At and one below it.
func TestNowAtTheLastOne(t *testing.T) {
	for _, at := range []int{1, 2, 500, impl.MaxTime} {
		for count := 1; count <= 4; count++ {
			f := plainQueue(count, impl.EcNot)
			f.Pkts[count-1].At = at
			for _, flag := range []bool{false, true} {
				c := ordinaryCodel()
				c.Dropping = flag
				checkLate(t, c, f, at)
				checkOut(t, c, f, at)
				for _, now := range []int{at - 1, 0} {
					checkNoLook(t, c, f, now, "ahead of the last one's At")
				}
			}
		}
	}
}

// Promise 6: a now that is none, beside full and empty queues.
func TestNowsThatAreNone(t *testing.T) {
	for _, now := range []int{-1, -2, -1000, impl.MaxTime + 1, impl.MaxTime + 2, 2 * impl.MaxTime, 1 << 62, math.MaxInt, math.MinInt, math.MinInt + 1} {
		for _, count := range []int{0, 1, 2, 40} {
			for _, first := range []int{0, 1, 150} {
				c := ordinaryCodel()
				c.First = first
				checkNoLook(t, c, plainQueue(count, impl.EcNot), now, "a now that is none")
				c.Dropping = true
				checkNoLook(t, c, plainQueue(count, impl.EcOne), now, "a now that is none")
			}
		}
	}
}

// Promise 6: a queue that is not FifoOk.
func TestNoQueueToLookAt(t *testing.T) {
	var list []impl.Fifo
	for _, c := range packetFields() {
		for _, v := range []int{c.least - 1, c.most + 1} {
			for at := range 3 {
				f := plainQueue(3, impl.EcNot)
				*c.of(&f.Pkts[at]) = v
				list = append(list, f)
			}
		}
	}
	falling, alike, full := plainQueue(3, 0), plainQueue(3, 0), plainQueue(4, 0)
	falling.Pkts[0].At, alike.Pkts[2].Id, full.Limit = 1, 0, 3
	list = append(list, falling, alike, full, plainQueue(41, 0), impl.Fifo{}, impl.Fifo{Limit: 41}, impl.Fifo{Limit: -1}, impl.Fifo{Limit: math.MaxInt})
	for _, f := range list {
		for _, now := range []int{200, impl.MaxTime} {
			for _, c := range []impl.Codel{ordinaryCodel(), {Target: 1, Interval: 1, Dropping: true}} {
				checkNoLook(t, c, f, now, "a queue that is none")
			}
		}
	}
}

func TestLateEmptyQueues(t *testing.T) {
	for _, now := range []int{0, 200, impl.MaxTime} {
		for _, first := range []int{0, 1, 150, 2 * impl.MaxTime} {
			for _, flag := range []bool{false, true} {
				c := ordinaryCodel()
				c.First, c.Dropping = first, flag
				want := c
				want.First = 0
				if got, late := impl.Late(c, impl.Fifo{Limit: 1}, now); late || got != want {
					t.Errorf("Late(%v, empty, %d) = %v, %v", c, now, got, late)
				}
			}
		}
	}
}

// anyCodel makes Codels whose times are mostly near now, with all kinds of Counts.
func anyCodel(list []int, now int) impl.Codel {
	target := 1 + list[0]&15
	c := impl.Codel{Target: target, Interval: target + list[1]&63, Dropping: list[0]&16 != 0}
	c.First = max(0, now-list[2]&31+8)
	if list[2]&0x300 == 0 {
		c.First = 0
	}
	c.Next = max(0, now-list[3]&31+4)
	if list[3]&0x300 == 0 {
		c.Next = max(0, now-16*c.Interval+list[3]>>10&3-1)
	}
	c.Count, c.Last = list[4]&7, list[5]&7
	if list[4]&0x300 == 0 {
		c.Count = 1<<30 - list[4]&3
	}
	if list[5]&0x700 == 0 {
		c.Last = 1<<30 - list[5]&3
	}
	return c
}

// anyLine makes short queues that came ahead of now, mostly of some 1500 bytes and more.
func anyLine(list []int, now int) impl.Fifo {
	f := impl.Fifo{Limit: 8}
	at := max(0, now-list[0]&31)
	for i := range list[1] & 7 {
		x := list[2+i]
		at = min(now, at+x&1*(x>>1&3))
		f.Pkts = append(f.Pkts, impl.Pkt{Id: 100 - i, Flow: x & 15, Host: x & 3, Size: min(2000, 1+x>>3&2047), At: at, Ecn: x >> 20 & 3 * (x >> 22 & 1)})
	}
	return f
}

func TestLatenessOfAllForms(t *testing.T) {
	list := noise(16 * 30000)
	late, early, begun, none := 0, 0, 0, 0
	for i := 0; i < len(list); i += 16 {
		now := list[i] >> 4 & 4095
		c, f := anyCodel(list[i:i+6], now), anyLine(list[i+6:i+16], now)
		checkLate(t, c, f, now)
		switch got, is := impl.Late(c, f, now); {
		case is:
			late++
		case got.First == 0:
			none++
		case c.First == 0:
			begun++
		default:
			early++
		}
		if t.Failed() {
			t.FailNow()
		}
	}
	if late < 1000 || early < 1000 || begun < 1000 || none < 1000 {
		t.Error("too few of one kind:", late, early, begun, none)
	}
}
