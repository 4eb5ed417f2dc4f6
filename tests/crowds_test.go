package tests

import (
	"slices"
	"testing"

	"loop.example/g00453/impl"
)

// dice tells numbers in any order, the same ones each time.
type dice struct{ state uint64 }

func newDice() *dice { return &dice{state: 88172645463325252} }

func (d *dice) below(n int) int {
	d.state ^= d.state << 13
	d.state ^= d.state >> 7
	d.state ^= d.state << 17
	return int(d.state >> 11 % uint64(n))
}

func (d *dice) one(list ...int) int { return list[d.below(len(list))] }

// order has the numbers below n, each once.
func (d *dice) order(n int) []int {
	var list []int
	for i := range n {
		list = slices.Insert(list, d.below(i+1), i)
	}
	return list
}

// anyFair makes Fairs with few lines that have packets, mostly nearly full, and Codels whose times are near now.
func anyFair(d *dice, now int) impl.Fair {
	f := emptyFair(d.one(1, 7, 500, 1514, 2000, 10000), d.one(1, 2, 5, 9, 20, 40))
	order := d.order(16)
	listed := d.one(0, 1, 2, 3, 5, 16)
	cut := d.below(listed + 1)
	f.New, f.Old = order[:cut], order[cut:listed]
	for number := range f.Lines {
		f.Lines[number].Codel = anyCodel([]int{d.below(1 << 30), d.below(1 << 30), d.below(1 << 30), d.below(1 << 30), d.below(1 << 30), d.below(1 << 30)}, now)
		f.Lines[number].Short = d.one(0, 1, -1, 2, f.Quantum, -f.Quantum%1000, 1-f.Quantum%1000, d.below(2*f.Quantum), -d.below(min(2000, 3*f.Quantum)))
		f.Lines[number].Short = min(f.Lines[number].Short, 12000)
	}
	if listed == 0 {
		return f
	}
	for i := range d.one(0, 1, f.Limit/2, f.Limit-1, f.Limit) {
		line := order[d.below(listed)]
		at := max(0, now-d.below(40))
		if pkts := f.Lines[line].Pkts; len(pkts) > 0 {
			at = min(now, pkts[len(pkts)-1].At+d.below(4))
		}
		f.Lines[line].Pkts = append(f.Lines[line].Pkts, impl.Pkt{Id: 100 - i, Flow: line, Host: d.below(4), Size: d.one(1, 500, 1000, 1500, 2000, 1+d.below(2000)), At: at, Ecn: d.below(4) * d.below(2)})
	}
	return f
}

// wronged changes one thing, which is mostly no longer as it should be then.
func wronged(d *dice, f impl.Fair) impl.Fair {
	f = cloned(f)
	line := &f.Lines[d.below(16)]
	switch d.below(12) {
	case 0:
		f.Quantum = d.one(0, -1, 10001, 1)
	case 1:
		f.Limit = d.one(0, 41, f.Limit-1, 1, -5)
	case 2:
		f.Lines = f.Lines[:15]
	case 3:
		f.Lines = append(f.Lines, f.Lines[0])
	case 4:
		f.New = append(f.New, d.below(18)-1)
	case 5:
		f.Old = append(f.Old, d.below(18)-1)
	case 6:
		f.New = f.New[min(1, len(f.New)):]
	case 7:
		f.Old = f.Old[min(1, len(f.Old)):]
	case 8:
		line.Short = d.one(-2001, -2000, 12000, 12001)
	case 9:
		line.Codel = wrongCodels()[d.below(20)]
	case 10:
		line.Pkts = append(line.Pkts, impl.Pkt{Id: d.below(101), Flow: d.below(16), Size: 1 + d.below(2), At: d.below(10000)})
	case 11:
		if len(line.Pkts) > 0 {
			fields := packetFields()
			*fields[d.below(len(fields))].of(&line.Pkts[d.below(len(line.Pkts))]) = d.below(20) - 1
		}
	}
	return f
}

func TestLinesOfAllForms(t *testing.T) {
	d := newDice()
	well, ill := 0, 0
	for range 40000 {
		f := anyFair(d, 1000)
		checkFair(t, f, "any")
		if f = wronged(d, f); linesOk(f) {
			checkFair(t, f, "any that is well yet")
			well++
		} else {
			checkNoFair(t, f, "any that is wrong")
			ill++
		}
		if t.Failed() {
			t.FailNow()
		}
	}
	if well < 1000 || ill < 1000 {
		t.Error("too few of one kind:", well, ill)
	}
}

// pushed is FairPush of what is as it should be, by another road: all packets are laid in one list and parted again.
func pushed(f impl.Fair, p impl.Pkt) (impl.Fair, []impl.Pkt, bool) {
	f = cloned(f)
	var all []impl.Pkt
	for _, line := range f.Lines {
		all = append(all, line.Pkts...)
	}
	stands := func(other impl.Pkt) bool { return other.Id == p.Id || other.Flow == p.Flow && p.At < other.At }
	if slices.ContainsFunc(all, stands) {
		return f, nil, false
	}
	all = append(all, p)
	if !slices.Contains(slices.Concat(f.New, f.Old), p.Flow) {
		f.New, f.Lines[p.Flow].Short = append(f.New, p.Flow), f.Quantum
	}
	var drops []impl.Pkt
	if len(all) > f.Limit {
		bytes := make([]int, 16)
		for _, one := range all {
			bytes[one.Flow] += one.Size
		}
		fattest := slices.Index(bytes, slices.Max(bytes))
		at := slices.IndexFunc(all, func(one impl.Pkt) bool { return one.Flow == fattest })
		drops = []impl.Pkt{all[at]}
		all = slices.Delete(all, at, at+1)
	}
	for number := range f.Lines {
		f.Lines[number].Pkts = nil
	}
	for _, one := range all {
		f.Lines[one.Flow].Pkts = append(f.Lines[one.Flow].Pkts, one)
	}
	return f, drops, true
}

// checkOneDropped asks the promise itself: nobody is dropped but the first one of the fattest line, and only if there are too many.
func checkOneDropped(t *testing.T, f impl.Fair, p impl.Pkt, got impl.Fair, drops []impl.Pkt) {
	t.Helper()
	if len(drops) != max(0, crowd(f)+1-f.Limit) {
		t.Errorf("FairPush(%v, %v) drops %v", f, p, drops)
	}
	bytes := fatness(f)
	bytes[p.Flow] += p.Size
	for number, line := range f.Lines {
		came, stayed := slices.Clone(line.Pkts), slices.Clone(got.Lines[number].Pkts)
		if number == p.Flow {
			came = append(came, p)
		}
		if len(drops) > 0 && drops[0].Flow == number {
			if slices.Index(bytes, slices.Max(bytes)) != number {
				t.Errorf("FairPush(%v, %v) drops of %d, which is not the fattest", f, p, number)
			}
			stayed = slices.Insert(stayed, 0, drops[0])
		}
		if !slices.Equal(came, stayed) {
			t.Errorf("FairPush(%v, %v): %d became %v", f, p, number, got.Lines[number])
		}
	}
}

func checkPushed(t *testing.T, f impl.Fair, p impl.Pkt) (impl.Fair, []impl.Pkt, bool) {
	t.Helper()
	want, lost, well := pushed(f, p)
	got, drops, ok := impl.FairPush(f, p)
	if ok != well || !slices.Equal(drops, lost) || !sameFair(got, want) {
		t.Errorf("FairPush(%v, %v) = %v, %v, %v, want %v, %v, %v", f, p, got, drops, ok, want, lost, well)
	}
	checkFair(t, got, "behind a push")
	if ok {
		checkOneDropped(t, f, p, got, drops)
	}
	return got, drops, ok
}

// Promise 8: a packet of a line that is in New, in Old, and in no list, with packets and without.
func TestPushesByHand(t *testing.T) {
	for _, c := range []struct {
		flow, short int
		fresh       []int
	}{
		{3, 800, []int{3, 7}}, {7, 1500, []int{3, 7}}, {15, 20, []int{3, 7}}, {0, -100, []int{3, 7}}, {4, 1, []int{3, 7}},
		{1, 1500, []int{3, 7, 1}}, {14, 1500, []int{3, 7, 14}},
	} {
		f := ordinaryFair()
		p := impl.Pkt{Id: 99, Flow: c.flow, Host: 2, Size: 123, At: 50, Ecn: 2}
		got, drops, ok := checkPushed(t, f, p)
		want := ordinaryFair()
		want.New = c.fresh
		want.Lines[c.flow].Short = c.short
		want.Lines[c.flow].Pkts = append(want.Lines[c.flow].Pkts, p)
		if !ok || len(drops) != 0 || !sameFair(got, want) {
			t.Errorf("a packet of %d: %v, %v, %v", c.flow, got, drops, ok)
		}
	}
	for number := range 16 {
		f := emptyFair(10000, 1)
		f.Lines[number].Short = -2000
		p := impl.Pkt{Id: 0, Flow: number, Size: 2000, At: impl.MaxTime}
		got, _, ok := checkPushed(t, f, p)
		if !ok || !slices.Equal(got.New, []int{number}) || len(got.Old) != 0 || got.Lines[number].Short != 10000 || !slices.Equal(got.Lines[number].Pkts, []impl.Pkt{p}) {
			t.Errorf("the first one of all: %v, %v", got, ok)
		}
	}
}

// Promise 8: a line that was emptied stays what it was, but for its Short if it is in no list.
func TestPushesKeepTheCodel(t *testing.T) {
	for number, codel := range []impl.Codel{ordinaryCodel(), {Target: 1, Interval: 9, First: 7, Next: 8, Count: 9, Last: 3, Dropping: true}} {
		f := emptyFair(700, 5)
		f.Lines[number].Codel = codel
		got, _, _ := checkPushed(t, f, impl.Pkt{Id: 1, Flow: number, Size: 1})
		if got.Lines[number].Codel != codel {
			t.Error("its Codel became", got.Lines[number].Codel)
		}
	}
}

// Promise 8: a packet whose Id is there, in its own line and in another one.
func TestPushedIdsAreApart(t *testing.T) {
	for id := range 9 {
		for flow := range 16 {
			f := ordinaryFair()
			p := impl.Pkt{Id: id, Flow: flow, Size: 1, At: 100}
			got, drops, ok := checkPushed(t, f, p)
			if there := id >= 1 && id <= 6; ok == there || there && (len(drops) != 0 || !sameFair(got, f)) {
				t.Errorf("an Id of %d for %d: %v, %v, %v", id, flow, got, drops, ok)
			}
			f.Limit = 6 // full: nobody is dropped for one that is not let in
			checkPushed(t, f, p)
		}
	}
}

// Promise 8: an At that is the last one's of its Flow, one below and one above; that of another Flow plays no part.
func TestPushedAts(t *testing.T) {
	for flow, last := range map[int]int{3: 20, 7: 15, 15: 5, 0: 30} {
		for at := last - 5; at <= last+2; at++ {
			for _, limit := range []int{6, 8} {
				f := ordinaryFair()
				f.Limit = limit
				got, drops, ok := checkPushed(t, f, impl.Pkt{Id: 50, Flow: flow, Size: 1, At: at})
				if ok != (at >= last) || !ok && (len(drops) != 0 || !sameFair(got, f)) {
					t.Errorf("an At of %d behind %d: %v, %v, %v", at, last, got, drops, ok)
				}
			}
		}
	}
	for _, flow := range []int{1, 4} {
		if _, _, ok := checkPushed(t, ordinaryFair(), impl.Pkt{Id: 50, Flow: flow, Size: 1, At: 0}); !ok {
			t.Error("an At of 0 in an empty line is refused:", flow)
		}
	}
}

// Promise 8: a push that makes just Limit packets, and one more.
func TestPushesAtLimit(t *testing.T) {
	for limit := 1; limit <= 40; limit++ {
		for _, flows := range []int{1, 2, 5, 16} {
			f, _ := impl.FairNew(1514, limit, 5, 100)
			for i := range limit + 5 {
				next, drops, ok := checkPushed(t, f, impl.Pkt{Id: i, Flow: i % flows, Size: 100, At: i / 2})
				if !ok || (len(drops) == 1) != (i >= limit) {
					t.Fatalf("packet %d of at most %d: %v, %v", i, limit, drops, ok)
				}
				f = next
			}
			if impl.FairCount(f) != limit {
				t.Error("not just Limit:", f)
			}
		}
	}
}

// Promise 8: one line has all MaxPkts, and gets one more: it is the fattest then, or another one is.
func TestOneLineHasAll(t *testing.T) {
	f, _ := impl.FairNew(1514, 40, 5, 100)
	for i := range 40 {
		f, _, _ = checkPushed(t, f, impl.Pkt{Id: i, Flow: 6, Size: 10})
	}
	for _, c := range []struct{ flow, size, want int }{{6, 10, 0}, {6, 2000, 0}, {5, 399, 0}, {5, 400, 99}, {7, 400, 0}, {7, 401, 99}, {5, 1, 0}} {
		_, drops, ok := checkPushed(t, f, impl.Pkt{Id: 99, Flow: c.flow, Size: c.size})
		if !ok || len(drops) != 1 || drops[0].Id != c.want {
			t.Errorf("%d bytes of %d: %v is dropped", c.size, c.flow, drops)
		}
	}
}

// Promise 8: two fattest lines alike in bytes; the packet's own line as the fattest one, with others ahead of it and alone.
func TestWhoIsDropped(t *testing.T) {
	fat := func(sizes ...int) impl.Fair {
		f := emptyFair(1500, len(sizes))
		for i, size := range sizes {
			flow := 2 + i
			f.Old = append([]int{flow}, f.Old...)
			f.Lines[flow].Pkts = []impl.Pkt{{Id: i, Flow: flow, Size: size}}
		}
		return f
	}
	for _, c := range []struct {
		f          impl.Fair
		flow, size int
		want       int
	}{
		{fat(500, 900, 900), 2, 1, 1}, {fat(900, 500, 900), 3, 1, 0}, {fat(900, 500, 900), 1, 899, 0}, {fat(900, 500, 900), 1, 900, 99}, {fat(900, 500, 900), 5, 900, 0}, {fat(900, 500, 900), 5, 901, 99},
		{fat(900, 500, 900), 4, 1, 2}, {fat(900, 500, 900), 2, 1, 0}, {fat(900, 500, 900), 3, 400, 0}, {fat(900, 500, 900), 3, 401, 1},
		{fat(5), 2, 1, 0}, {fat(5), 3, 5, 0}, {fat(5), 3, 6, 99}, {fat(5), 1, 5, 99}, {fat(5), 15, 2000, 99},
	} {
		got, drops, ok := checkPushed(t, c.f, impl.Pkt{Id: 99, Flow: c.flow, Size: c.size})
		if !ok || len(drops) != 1 || drops[0].Id != c.want || impl.FairCount(got) != c.f.Limit {
			t.Errorf("%d bytes of %d beside %v: %v is dropped", c.size, c.flow, fatness(c.f), drops)
		}
		if c.want == 99 && !slices.Contains(slices.Concat(got.New, got.Old), c.flow) {
			t.Error("a line whose only packet was dropped is in no list:", got)
		}
	}
}

// Promise 8: a packet that is none, for a line that is full and for one that is not.
func TestPushOfNoPacket(t *testing.T) {
	for _, limit := range []int{6, 8} {
		f := ordinaryFair()
		f.Limit = limit
		for _, c := range packetFields() {
			for _, v := range append(wrongNumbers(c.most), c.least-1) {
				for _, p := range []impl.Pkt{{Id: 9, Flow: 3, Size: 1, At: 100}, {Id: 1, Flow: 3, Size: 1, At: 0}} {
					*c.of(&p) = v
					checkNoPush(t, f, p, c.name)
				}
			}
			for _, v := range []int{c.least, c.most} {
				p := impl.Pkt{Id: 9, Flow: 1, Size: 1, At: 100}
				*c.of(&p) = v
				checkPushed(t, f, p)
			}
		}
		checkNoPush(t, f, impl.Pkt{}, "zero value")
	}
}

func TestPushesOfAllForms(t *testing.T) {
	d := newDice()
	let, refused, lost, own := 0, 0, 0, 0
	for range 40000 {
		f := anyFair(d, 1000)
		p := impl.Pkt{Id: d.one(500, 500, 100-d.below(40)), Flow: d.below(16), Host: d.below(4), Size: d.one(1, 500, 2000, 1+d.below(2000)), At: 940 + d.below(100), Ecn: d.below(4)}
		_, drops, ok := checkPushed(t, f, p)
		switch {
		case !ok:
			refused++
		case len(drops) == 0:
			let++
		case drops[0] == p:
			own++
		default:
			lost++
		}
		if t.Failed() {
			t.FailNow()
		}
	}
	if let < 1000 || refused < 1000 || lost < 1000 || own < 1000 {
		t.Error("too few of one kind:", let, refused, lost, own)
	}
}
