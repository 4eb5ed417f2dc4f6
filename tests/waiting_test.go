package tests

import (
	"math"
	"slices"
	"testing"

	"loop.example/g00453/impl"
)

// Promise 4: what is pushed is popped in that order.
func TestPushedIsPoppedInOrder(t *testing.T) {
	for limit := 1; limit <= 40; limit++ {
		f, _ := impl.FifoNew(limit)
		var in []impl.Pkt
		for i := range limit {
			p := ordinaryPacket(1000 - 7*i) // Ids, sizes and flows in an order of their own
			p.At = i / 3
			next, ok := impl.Push(f, p)
			if in = append(in, p); !ok || !sameQueue(next, impl.Fifo{Pkts: in, Limit: limit}) {
				t.Fatalf("Push(%v, %v) = %v, %v", f, p, next, ok)
			}
			f = next
		}
		for i, p := range in {
			next, got, ok := impl.Pop(f)
			if !ok || got != p || !sameQueue(next, impl.Fifo{Pkts: in[i+1:], Limit: limit}) {
				t.Fatalf("Pop(%v) = %v, %v, %v, want %v", f, next, got, ok, p)
			}
			f = next
		}
		checkEmpty(t, f, limit)
	}
}

func checkEmpty(t *testing.T, f impl.Fifo, limit int) {
	t.Helper()
	if f.Limit != limit || len(f.Pkts) != 0 || !impl.FifoOk(f) {
		t.Error("not an empty one:", f)
	}
	if got, p, ok := impl.Pop(f); ok || got.Limit != limit || len(got.Pkts) != 0 || p != (impl.Pkt{}) {
		t.Errorf("Pop(%v) = %v, %v, %v", f, got, p, ok)
	}
	if impl.Bytes(f) != 0 || impl.Waits(f, 0) != 0 || impl.Waits(f, impl.MaxTime) != 0 || len(impl.OfFlow(f, 0)) != 0 {
		t.Error("there is something in an empty one:", f)
	}
}

func TestEmptyQueues(t *testing.T) {
	for limit := 1; limit <= 40; limit++ {
		f, _ := impl.FifoNew(limit)
		checkEmpty(t, f, limit)
		checkEmpty(t, impl.Fifo{Pkts: []impl.Pkt{}, Limit: limit}, limit)
		checkEmpty(t, impl.Fifo{Pkts: queueOf(4, 4).Pkts[:0], Limit: limit}, limit)
	}
}

// Promise 4: pushes and pops in any order; those that come out are those that were let in, as they were.
func TestPushesAndPopsMixed(t *testing.T) {
	list := noise(30000)
	f, _ := impl.FifoNew(7)
	var line []impl.Pkt
	now, full, empty := 0, 0, 0
	for i, x := range list {
		now += x & 3
		if x>>2&15 < 8 {
			p := impl.Pkt{Id: i, Flow: x & 15, Host: x & 3, Size: 1 + x&1023, At: now, Ecn: x >> 4 & 3}
			next, ok := impl.Push(f, p)
			if ok != (len(line) < 7) {
				t.Fatalf("Push(%v, %v) = %v, %v", f, p, next, ok)
			}
			if ok {
				line = append(line, p)
			} else {
				full++
			}
			f = next
		} else {
			next, p, ok := impl.Pop(f)
			if ok != (len(line) > 0) || ok && p != line[0] || !ok && p != (impl.Pkt{}) {
				t.Fatalf("Pop(%v) = %v, %v, %v", f, next, p, ok)
			}
			if ok {
				line = line[1:]
			} else {
				empty++
			}
			f = next
		}
		if !sameQueue(f, impl.Fifo{Pkts: line, Limit: 7}) || !queueOk(f) {
			t.Fatalf("the queue is %v, want %v", f, line)
		}
	}
	if full < 100 || empty < 100 {
		t.Error("it was seldom full or empty:", full, empty)
	}
}

// checkPush asks for f, whole, with p behind it or without.
func checkPush(t *testing.T, f impl.Fifo, p impl.Pkt, want bool, name string) {
	t.Helper()
	whole := slices.Clone(f.Pkts)
	if want {
		whole = append(whole, p)
	}
	if got, ok := impl.Push(f, p); ok != want || !sameQueue(got, impl.Fifo{Pkts: whole, Limit: f.Limit}) {
		t.Errorf("%s: Push(%v, %v) = %v, %v", name, f, p, got, ok)
	}
}

// Promise 4: f and false, where p does not fit behind it.
func TestPushRefuses(t *testing.T) {
	for _, limit := range []int{1, 2, 39, 40} {
		checkPush(t, queueOf(limit-1, limit), ordinaryPacket(500), true, "room for one")
		checkPush(t, queueOf(limit, limit), ordinaryPacket(500), false, "full")
	}
	f := queueOf(5, 10)
	last := f.Pkts[4].At
	for at, want := range map[int]bool{0: false, f.Pkts[0].At: false, last - 1: false, last: true, last + 1: true, impl.MaxTime: true} {
		checkPush(t, f, impl.Pkt{Id: 6, Size: 1, At: at}, want, "At")
	}
	for id := range 8 {
		checkPush(t, f, impl.Pkt{Id: id, Size: 1, At: last}, id < 1 || id > 5, "Id")
	}
	less, first, _ := impl.Pop(f)
	first.At = last
	checkPush(t, less, first, true, "an Id that has gone out")
	checkPush(t, f, impl.Pkt{Id: 1, Size: 1, At: 0}, false, "both faults")
}

// Promise 4: that p is no packet counts ahead of that it would not fit.
func TestFirstReasonOfPush(t *testing.T) {
	full, room := queueOf(3, 3), queueOf(3, 4)
	for _, c := range packetFields() {
		for _, v := range []int{c.least - 1, c.most + 1} {
			for _, f := range []impl.Fifo{full, room} {
				for _, p := range []impl.Pkt{ordinaryPacket(9), ordinaryPacket(2)} {
					*c.of(&p) = v
					if got, ok := impl.Push(f, p); ok || !isZeroQueue(got) {
						t.Errorf("%s: Push(%v, %v) = %v, %v", c.name, f, p, got, ok)
					}
				}
			}
		}
	}
}

// Promise 4: each packet is of one flow; a flow's Ids come in the queue's order.
func TestEachPacketIsOfOneFlow(t *testing.T) {
	list := noise(41 * 300)
	for i := 0; i < len(list); i += 41 {
		f := queueOf(list[i]&1023%41, 40)
		for k := range f.Pkts {
			f.Pkts[k].Flow = list[i+k+1] & 15
			f.Pkts[k].Id = (k*23 + i) % 97
		}
		seen := map[int]int{}
		for flow := range 16 {
			got := impl.OfFlow(f, flow)
			var want []int
			for _, p := range f.Pkts {
				if p.Flow == flow {
					want = append(want, p.Id)
					seen[p.Id]++
				}
			}
			if !slices.Equal(got, want) {
				t.Fatalf("OfFlow(%v, %d) = %v, want %v", f, flow, got, want)
			}
		}
		if len(seen) != len(f.Pkts) {
			t.Fatal("one is of no flow or of two:", f)
		}
	}
}

func TestFlowsByHand(t *testing.T) {
	f := impl.Fifo{Limit: 5, Pkts: []impl.Pkt{
		{Id: 9, Flow: 15, Size: 1}, {Id: 0, Flow: 0, Size: 2}, {Id: 4, Flow: 15, Size: 3, At: 2}, {Id: 11, Flow: 3, Size: 4, At: 2}, {Id: 1, Flow: 15, Size: 5, At: 3},
	}}
	for flow, want := range map[int][]int{15: {9, 4, 1}, 0: {0}, 3: {11}, 1: nil, 14: nil} {
		if got := impl.OfFlow(f, flow); !slices.Equal(got, want) {
			t.Errorf("OfFlow of %d = %v, want %v", flow, got, want)
		}
	}
	for _, flow := range []int{-1, -15, 16, 31, 1<<32 + 15, math.MaxInt, math.MinInt} {
		if got := impl.OfFlow(f, flow); len(got) != 0 {
			t.Errorf("OfFlow of %d, which is none, = %v", flow, got)
		}
	}
}

func TestBytesAreTheSum(t *testing.T) {
	f := impl.Fifo{Limit: 40}
	sum := 0
	for i := range 40 {
		size := 1 + i*i
		f.Pkts = append(f.Pkts, impl.Pkt{Id: i, Size: size})
		if sum += size; impl.Bytes(f) != sum {
			t.Errorf("Bytes of %d packets = %d, want %d", i+1, impl.Bytes(f), sum)
		}
	}
	for i := range f.Pkts {
		f.Pkts[i].Size = 2000
	}
	if got := impl.Bytes(f); got != 80000 {
		t.Error("all at their most:", got)
	}
}

// Promise 4: now at the first one's At, one below it, at MaxTime and one above.
func TestWaitsByHand(t *testing.T) {
	for _, at := range []int{0, 1, 500, 999999999999, 1000000000000} {
		f := impl.Fifo{Limit: 3, Pkts: []impl.Pkt{{Id: 1, Size: 1, At: at}, {Id: 2, Size: 1, At: 1000000000000}}}
		for _, c := range []struct{ now, want int }{
			{at, 0}, {at - 1, 0}, {at - 2, 0},
			{1000000000000, 1000000000000 - at}, {1000000000001, 0}, {1000000000002, 0},
			{-1, 0}, {math.MinInt, 0}, {math.MinInt + 1, 0}, {math.MaxInt, 0}, {math.MaxInt - 1, 0},
		} {
			if got := impl.Waits(f, c.now); got != c.want {
				t.Errorf("Waits at %d of one from %d = %d, want %d", c.now, at, got, c.want)
			}
		}
	}
	f := queueOf(5, 5)
	for now := range 100 {
		if got, want := impl.Waits(f, now), max(0, now-10); got != want {
			t.Errorf("Waits at %d = %d, want %d", now, got, want)
		}
	}
}
