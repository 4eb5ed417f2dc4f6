package tests

import (
	"math"
	"slices"
	"testing"

	"loop.example/g00453/impl"
)

// queueOk is FifoOk by another road: Ids and Ats are taken out, sorted, and held against what they were.
func queueOk(f impl.Fifo) bool {
	if f.Limit < 1 || f.Limit > 40 || len(f.Pkts) > f.Limit {
		return false
	}
	var ids, ats []int
	for _, p := range f.Pkts {
		for _, c := range packetFields() {
			if v := *c.of(&p); v < c.least || v > c.most {
				return false
			}
		}
		ids, ats = append(ids, p.Id), append(ats, p.At)
	}
	slices.Sort(ids)
	return slices.IsSorted(ats) && len(slices.Compact(ids)) == len(f.Pkts)
}

type packetField struct {
	name        string
	least, most int
	of          func(p *impl.Pkt) *int
}

func packetFields() []packetField {
	return []packetField{
		{"Id", 0, 1000000000000, func(p *impl.Pkt) *int { return &p.Id }},
		{"Flow", 0, 15, func(p *impl.Pkt) *int { return &p.Flow }},
		{"Host", 0, 3, func(p *impl.Pkt) *int { return &p.Host }},
		{"Size", 1, 2000, func(p *impl.Pkt) *int { return &p.Size }},
		{"At", 0, 1000000000000, func(p *impl.Pkt) *int { return &p.At }},
		{"Ecn", 0, 3, func(p *impl.Pkt) *int { return &p.Ecn }},
	}
}

func ordinaryPacket(id int) impl.Pkt {
	return impl.Pkt{Id: id, Flow: id % 16, Host: id % 4, Size: 100 + id, At: 10 * id, Ecn: id % 4}
}

// queueOf has count packets with the Ids from 1 on, and room for none but these.
func queueOf(count int, limit int) impl.Fifo {
	f := impl.Fifo{Limit: limit}
	for id := range count {
		f.Pkts = append(f.Pkts, ordinaryPacket(id+1))
	}
	return f
}

func sameQueue(a, b impl.Fifo) bool {
	return a.Limit == b.Limit && slices.Equal(a.Pkts, b.Pkts)
}

func isZeroQueue(f impl.Fifo) bool {
	return f.Limit == 0 && len(f.Pkts) == 0
}

// checkNoQueue asks all that go by FifoOk for their fixed answers.
func checkNoQueue(t *testing.T, f impl.Fifo, name string) {
	t.Helper()
	if impl.FifoOk(f) || queueOk(f) {
		t.Errorf("%s: it is FifoOk", name)
	}
	for _, p := range []impl.Pkt{{Id: 1000, Size: 1, At: impl.MaxTime}, {}} {
		if got, ok := impl.Push(f, p); ok || !isZeroQueue(got) {
			t.Errorf("%s: Push answers %v, %v", name, got, ok)
		}
	}
	if got, p, ok := impl.Pop(f); ok || !isZeroQueue(got) || p != (impl.Pkt{}) {
		t.Errorf("%s: Pop answers %v, %v, %v", name, got, p, ok)
	}
	if got := impl.Bytes(f); got != 0 {
		t.Errorf("%s: Bytes answers %d", name, got)
	}
	if got := impl.Waits(f, impl.MaxTime); got != 0 {
		t.Errorf("%s: Waits answers %d", name, got)
	}
	for flow := -1; flow <= 16; flow++ {
		if got := impl.OfFlow(f, flow); len(got) != 0 {
			t.Errorf("%s: OfFlow answers %v", name, got)
		}
	}
}

func checkQueue(t *testing.T, f impl.Fifo, name string) {
	t.Helper()
	if !impl.FifoOk(f) || !queueOk(f) {
		t.Errorf("%s: it is not FifoOk: %v", name, f)
	}
}

func TestQueueConstants(t *testing.T) {
	if impl.MaxPkts != 40 || impl.MaxSize != 2000 || impl.MaxTime != 1000000000000 {
		t.Error(impl.MaxPkts, impl.MaxSize, impl.MaxTime)
	}
}

// checkPacket asks PktOk, FifoOk and Push alike.
func checkPacket(t *testing.T, p impl.Pkt, want bool, name string) {
	t.Helper()
	if impl.PktOk(p) != want {
		t.Errorf("%s: PktOk(%v) is %v", name, p, !want)
	}
	alone := impl.Fifo{Pkts: []impl.Pkt{p}, Limit: 1}
	if want {
		checkQueue(t, alone, name)
	} else {
		checkNoQueue(t, alone, name)
	}
	got, ok := impl.Push(impl.Fifo{Limit: 1}, p)
	if ok != want || ok && !sameQueue(got, alone) || !ok && !isZeroQueue(got) {
		t.Errorf("%s: Push of %v answers %v, %v", name, p, got, ok)
	}
}

// Promise 4: each field at its least, at its most, one below and one above.
func TestPacketFields(t *testing.T) {
	checkPacket(t, ordinaryPacket(7), true, "ordinary")
	checkPacket(t, impl.Pkt{}, false, "zero value")
	least, most := impl.Pkt{}, impl.Pkt{}
	for _, c := range packetFields() {
		*c.of(&least), *c.of(&most) = c.least, c.most
	}
	checkPacket(t, least, true, "all at their least")
	checkPacket(t, most, true, "all at their most")
	for _, c := range packetFields() {
		for _, v := range []int{c.least, c.least + 1, c.most - 1, c.most} {
			p := ordinaryPacket(7)
			*c.of(&p) = v
			checkPacket(t, p, true, c.name)
		}
		for _, v := range []int{c.least - 1, c.least - 2, c.most + 1, c.most + 2, 2 * (c.most + 1), 1 << 62, math.MaxInt, math.MinInt} {
			p := ordinaryPacket(7)
			*c.of(&p) = v
			checkPacket(t, p, false, c.name)
			p = most
			*c.of(&p) = v
			checkPacket(t, p, false, c.name)
		}
	}
}

// Promise 4: one packet that is none, first, amid and last.
func TestNoPacketWithinAQueue(t *testing.T) {
	for _, count := range []int{1, 2, 3, 5, 40} {
		for at := range count {
			for _, c := range packetFields() {
				for _, v := range []int{c.least - 1, c.most + 1} {
					f := queueOf(count, 40)
					*c.of(&f.Pkts[at]) = v
					checkNoQueue(t, f, c.name)
				}
			}
			f := queueOf(count, 40)
			f.Pkts[at] = impl.Pkt{}
			checkNoQueue(t, f, "zero value within")
		}
	}
}

// Promise 4: a Limit of 1, of MaxPkts, one below and one above.
func TestLimits(t *testing.T) {
	for _, limit := range []int{1, 2, 39, 40} {
		f, ok := impl.FifoNew(limit)
		if !ok || f.Limit != limit || len(f.Pkts) != 0 {
			t.Errorf("FifoNew(%d) = %v, %v", limit, f, ok)
		}
		checkQueue(t, f, "new")
		checkQueue(t, impl.Fifo{Pkts: []impl.Pkt{}, Limit: limit}, "an empty list")
	}
	for _, limit := range []int{0, -1, -40, 41, 42, 80, 1 << 32, 1<<32 + 1, math.MaxInt, math.MinInt, math.MinInt + 1} {
		if f, ok := impl.FifoNew(limit); ok || !isZeroQueue(f) {
			t.Errorf("FifoNew(%d) = %v, %v", limit, f, ok)
		}
		for _, count := range []int{0, 1, 3, 40} {
			checkNoQueue(t, queueOf(count, limit), "a Limit that is none")
		}
	}
}

// Promise 4: just Limit packets and one more.
func TestAsManyAsLimit(t *testing.T) {
	for limit := 1; limit <= 40; limit++ {
		checkQueue(t, queueOf(limit-1, limit), "one less than Limit")
		checkQueue(t, queueOf(limit, limit), "just Limit")
		checkNoQueue(t, queueOf(limit+1, limit), "one more than Limit")
	}
	checkNoQueue(t, queueOf(40, 1), "many more")
	checkNoQueue(t, queueOf(100000, 40), "very many")
}

// Promise 4: an At below that of one ahead, also with others between them; one At is no fault.
func TestAtsDoNotFall(t *testing.T) {
	for i := range 10 {
		for k := i + 1; k < 10; k++ {
			f := queueOf(10, 10)
			for j := i; j <= k; j++ {
				f.Pkts[j].At = f.Pkts[i].At
			}
			checkQueue(t, f, "one At")
			f.Pkts[k].At--
			checkNoQueue(t, f, "an At that is one below")
		}
	}
	f := queueOf(3, 3)
	f.Pkts[0].At, f.Pkts[1].At, f.Pkts[2].At = impl.MaxTime, impl.MaxTime, impl.MaxTime
	checkQueue(t, f, "all at MaxTime")
	f.Pkts[2].At = 0
	checkNoQueue(t, f, "the last one at 0")
	f.Pkts[0].At, f.Pkts[1].At = 0, 0
	checkQueue(t, f, "all at 0")
}

// Promise 4: two packets with one Id, also with others between them; Ids need no order.
func TestIdsAreApart(t *testing.T) {
	for _, count := range []int{2, 3, 10, 40} {
		for i := range count {
			for k := range count {
				f := queueOf(count, 40)
				f.Pkts[k].Id = f.Pkts[i].Id
				if i == k {
					checkQueue(t, f, "all Ids apart")
				} else {
					checkNoQueue(t, f, "two with one Id")
				}
			}
		}
	}
	f := queueOf(40, 40)
	for i := range f.Pkts {
		f.Pkts[i].Id = impl.MaxTime - i
	}
	checkQueue(t, f, "Ids that fall")
}

// anyQueue makes short queues in which Ids and Ats are often alike.
func anyQueue(list []int) impl.Fifo {
	f := impl.Fifo{Limit: list[0]&7 - 1}
	at := 0
	for i := range list[1] & 3 {
		at += list[2+i]&7 - 1
		f.Pkts = append(f.Pkts, impl.Pkt{Id: list[5+i] & 7, Flow: list[2+i] >> 3 & 15, Size: 1 + list[5+i]>>3&1023, At: at})
	}
	return f
}

func TestQueuesOfAllForms(t *testing.T) {
	list := noise(8 * 20000)
	well, ill := 0, 0
	for i := 0; i < len(list); i += 8 {
		f := anyQueue(list[i : i+8])
		if queueOk(f) {
			checkQueue(t, f, "any")
			well++
		} else {
			checkNoQueue(t, f, "any")
			ill++
		}
		if t.Failed() {
			t.Fatal(f)
		}
	}
	if well < 1000 || ill < 1000 {
		t.Error("too few of one kind:", well, ill)
	}
}

// spare has the packets with spare room behind them, which is filled with more that would fit.
func spare(f impl.Fifo) impl.Fifo {
	whole := slices.Clone(f.Pkts)
	for i := range 50 {
		whole = append(whole, impl.Pkt{Id: 7000 + i, Flow: 1, Size: 9, At: impl.MaxTime})
	}
	f.Pkts = whole[:len(f.Pkts)]
	return f
}

func checkSpare(t *testing.T, f impl.Fifo, was impl.Fifo, name string) {
	t.Helper()
	whole := f.Pkts[:cap(f.Pkts)]
	if !sameQueue(f, was) || whole[len(f.Pkts)].Id != 7000 || whole[len(f.Pkts)+49].Id != 7049 {
		t.Errorf("%s: written into the argument: %v", name, whole)
	}
}

// overwrite fills an answer and all the room behind it, and adds to it.
func overwrite(t *testing.T, f impl.Fifo, name string) {
	t.Helper()
	whole := f.Pkts[:cap(f.Pkts)]
	for i := range whole {
		if whole[i].Id >= 7000 {
			t.Errorf("%s: spare room is handed out: %v", name, whole)
		}
		whole[i] = impl.Pkt{Id: -1}
	}
	_ = append(f.Pkts, impl.Pkt{Id: -2})
}

// Answers share nothing with arguments, whether a packet was taken or refused, and nothing is written into these or behind them.
func TestQueuesAreNewMemory(t *testing.T) {
	for _, limit := range []int{3, 4, 40} {
		for count := range 4 {
			was := queueOf(count, limit)
			for _, p := range []impl.Pkt{ordinaryPacket(50), ordinaryPacket(1), {Id: 60, Size: 1}, {}} {
				f := spare(was)
				got, _ := impl.Push(f, p)
				checkSpare(t, f, was, "Push")
				overwrite(t, got, "Push")
				checkSpare(t, f, was, "what Push answers")
			}
			f := spare(was)
			got, _, _ := impl.Pop(f)
			checkSpare(t, f, was, "Pop")
			overwrite(t, got, "Pop")
			checkSpare(t, f, was, "what Pop answers")
			checkAsking(t, f, was)
		}
	}
}

func checkAsking(t *testing.T, f impl.Fifo, was impl.Fifo) {
	t.Helper()
	impl.FifoOk(f)
	if impl.Bytes(f) != impl.Bytes(was) || impl.Waits(f, 500) != impl.Waits(was, 500) {
		t.Error("what lies behind the length was read")
	}
	ids := impl.OfFlow(f, 1)
	if !slices.Equal(ids, impl.OfFlow(was, 1)) {
		t.Error("what lies behind the length was read:", ids)
	}
	for i := range ids {
		ids[i] = -1
	}
	if again := impl.OfFlow(f, 1); !slices.Equal(again, impl.OfFlow(was, 1)) {
		t.Error("two answers share memory:", again)
	}
	checkSpare(t, f, was, "asking")
}
