package tests

import (
	"math"
	"slices"
	"testing"

	"loop.example/g00453/impl"
)

type turn struct {
	fair  impl.Fair
	drops []impl.Pkt
	first impl.Pkt
	ok    bool
}

func turnOf(f impl.Fair, now int) turn {
	fair, drops, first, ok := impl.FairPop(f, now)
	return turn{fair, drops, first, ok}
}

func (o turn) same(other turn) bool {
	return sameFair(o.fair, other.fair) && slices.Equal(o.drops, other.drops) && o.first == other.first && o.ok == other.ok
}

// served is FairPop of what is as it should be, by another road: both lists are one, of which the first so many are new.
func served(f impl.Fair, now int) turn {
	f = cloned(f)
	order, fresh := slices.Concat(f.New, f.Old), len(f.New)
	o := turn{}
	for len(order) > 0 && !o.ok {
		number, wasFresh := order[0], fresh > 0
		line := &f.Lines[number]
		again := line.Short < 1
		if again {
			line.Short += f.Quantum
		} else {
			out := outOf(line.Codel, impl.Fifo{Pkts: line.Pkts, Limit: 40}, now)
			line.Codel, line.Pkts = out.codel, out.rest.Pkts
			line.Short -= out.first.Size
			o.drops = append(o.drops, out.drops...)
			if o.first, o.ok = out.first, out.ok; o.ok {
				break
			}
		}
		order, fresh = order[1:], max(0, fresh-1)
		if again || wasFresh && len(order) > fresh {
			order = append(order, number)
		}
	}
	f.New, f.Old = order[:fresh], order[fresh:]
	o.fair = f
	return o
}

// checkBeginnings asks the promise itself: what goes out or is dropped is of lines' beginnings, and all else stays.
func checkBeginnings(t *testing.T, f impl.Fair, o turn) {
	t.Helper()
	gone := slices.Clone(o.drops)
	if o.ok {
		gone = append(gone, o.first)
	}
	for number, line := range f.Lines {
		var all []impl.Pkt
		for _, p := range gone {
			if p.Flow == number {
				all = append(all, p)
			}
		}
		count := len(all)
		all = append(all, o.fair.Lines[number].Pkts...)
		if o.ok && o.first.Flow == number && len(line.Pkts) >= count {
			was := line.Pkts[count-1]
			if o.first.Ecn != was.Ecn && (o.first.Ecn != impl.EcCe || was.Ecn == impl.EcNot) {
				t.Errorf("%v went out as %v", was, o.first)
			}
			all[count-1].Ecn = was.Ecn
		}
		if !slices.Equal(all, line.Pkts) {
			t.Errorf("line %d was %v, became %v; %v went out or was dropped", number, line.Pkts, o.fair.Lines[number].Pkts, gone)
		}
	}
	if o.ok != (crowd(f) > len(o.drops)) || o.fair.Quantum != f.Quantum || o.fair.Limit != f.Limit {
		t.Errorf("%v became %v", f, o)
	}
}

func checkTurn(t *testing.T, f impl.Fair, now int) turn {
	t.Helper()
	want, got := served(f, now), turnOf(f, now)
	if !got.same(want) {
		t.Errorf("FairPop(%v, %d) = %v, want %v", f, now, got, want)
	}
	checkFair(t, got.fair, "behind a pop")
	checkBeginnings(t, f, got)
	return got
}

// turnCase tells by hand the lists, Shorts of lines, and Ids behind a pop; an Id of -1 is nobody.
type turnCase struct {
	name       string
	f          impl.Fair
	shorts     map[int]int
	fresh, old []int
	after      map[int]int
	id         int
}

func checkTurns(t *testing.T, list []turnCase) {
	t.Helper()
	for _, c := range list {
		for number, short := range c.shorts {
			c.f.Lines[number].Short = short
		}
		o := checkTurn(t, c.f, 50)
		if !slices.Equal(o.fair.New, c.fresh) || !slices.Equal(o.fair.Old, c.old) {
			t.Errorf("%s: New is %v, Old %v", c.name, o.fair.New, o.fair.Old)
		}
		for number, short := range c.after {
			if got := o.fair.Lines[number].Short; got != short {
				t.Errorf("%s: Short of %d is %d", c.name, number, got)
			}
		}
		if o.ok != (c.id >= 0) || o.ok && o.first.Id != c.id || !o.ok && o.first != (impl.Pkt{}) || len(o.drops) != 0 {
			t.Errorf("%s: it answers %v, %v, %v", c.name, o.drops, o.first, o.ok)
		}
	}
}

// onePacket is of 400 bytes, with its Flow as Id.
func onePacket(flow int) impl.Pkt {
	return impl.Pkt{Id: flow, Flow: flow, Size: 400, At: 48}
}

// Promise 8: New and Old, one of them empty and both.
func TestNewAheadOfOld(t *testing.T) {
	a, b, c := onePacket(3), onePacket(5), onePacket(9)
	checkTurns(t, []turnCase{
		{"New is first", fairOf(500, 9, []int{5}, []int{3}, a, b), map[int]int{3: 500, 5: 500}, []int{5}, []int{3}, map[int]int{3: 500, 5: 100}, 5},
		{"the first of New", fairOf(500, 9, []int{9, 5}, []int{3}, a, b, c), map[int]int{3: 500, 5: 500, 9: 7}, []int{9, 5}, []int{3}, map[int]int{9: -393}, 9},
		{"Old is empty", fairOf(500, 9, []int{9, 5}, nil, b, c), map[int]int{5: 500, 9: 1}, []int{9, 5}, nil, map[int]int{9: -399}, 9},
		{"New is empty", fairOf(500, 9, nil, []int{9, 5}, b, c), map[int]int{5: 500, 9: 1}, nil, []int{9, 5}, map[int]int{9: -399}, 9},
		{"both are empty", emptyFair(500, 9), map[int]int{5: 0, 9: 1}, nil, nil, map[int]int{5: 0, 9: 1}, -1},
		{"its list is left only later", fairOf(500, 9, []int{3}, nil, a), map[int]int{3: 500}, []int{3}, nil, map[int]int{3: 100}, 3},
	})
}

// Promise 8: a Short of 0, of 1 and below 0.
func TestShortsOfZeroAndOne(t *testing.T) {
	a, b := onePacket(3), onePacket(5)
	checkTurns(t, []turnCase{
		{"1 in New", fairOf(500, 9, []int{3}, []int{5}, a, b), map[int]int{3: 1, 5: 1}, []int{3}, []int{5}, map[int]int{3: -399, 5: 1}, 3},
		{"0 in New", fairOf(500, 9, []int{3}, []int{5}, a, b), map[int]int{3: 0, 5: 1}, nil, []int{5, 3}, map[int]int{3: 500, 5: -399}, 5},
		{"below 0 in New", fairOf(500, 9, []int{3}, []int{5}, a, b), map[int]int{3: -1, 5: 1}, nil, []int{5, 3}, map[int]int{3: 499, 5: -399}, 5},
		{"1 in Old", fairOf(500, 9, nil, []int{3, 5}, a, b), map[int]int{3: 1, 5: 1}, nil, []int{3, 5}, map[int]int{3: -399, 5: 1}, 3},
		{"0 in Old", fairOf(500, 9, nil, []int{3, 5}, a, b), map[int]int{3: 0, 5: 1}, nil, []int{5, 3}, map[int]int{3: 500, 5: -399}, 5},
		{"below 0 in Old", fairOf(500, 9, nil, []int{3, 5}, a, b), map[int]int{3: -1, 5: 1}, nil, []int{5, 3}, map[int]int{3: 499, 5: -399}, 5},
		{"0 alone in New", fairOf(500, 9, []int{3}, nil, a), map[int]int{3: 0}, nil, []int{3}, map[int]int{3: 100}, 3},
		{"0 alone in Old", fairOf(500, 9, nil, []int{3}, a), map[int]int{3: 0}, nil, []int{3}, map[int]int{3: 100}, 3},
		{"0 of both in New", fairOf(500, 9, []int{5, 3}, nil, a, b), map[int]int{3: 0, 5: 0}, nil, []int{5, 3}, map[int]int{3: 500, 5: 100}, 5},
		{"several rounds", fairOf(10, 9, nil, []int{3}, a), map[int]int{3: -25}, nil, []int{3}, map[int]int{3: -395}, 3},
		{"the one with less is later", fairOf(10, 9, nil, []int{3, 5}, a, b), map[int]int{3: -25, 5: -15}, nil, []int{5, 3}, map[int]int{3: 5, 5: -395}, 5},
		{"alike in rounds", fairOf(10, 9, nil, []int{3, 5}, a, b), map[int]int{3: -25, 5: -20}, nil, []int{3, 5}, map[int]int{3: -395, 5: 10}, 3},
		{"the ends", fairOf(1, 9, []int{5}, []int{3}, a, b), map[int]int{3: -2000, 5: -2000}, nil, []int{5, 3}, map[int]int{3: 1, 5: -399}, 5},
		{"the other ends", fairOf(10000, 9, []int{5}, []int{3}, a, b), map[int]int{3: 12000, 5: 12000}, []int{5}, []int{3}, map[int]int{3: 12000, 5: 11600}, 5},
		{"an empty one has its round too", fairOf(500, 9, []int{3}, nil), map[int]int{3: -100}, nil, nil, map[int]int{3: 400}, -1},
	})
}

// Promise 8: a line of New that is empty, with Old empty and not empty; a line of Old that is.
func TestEmptyLinesGo(t *testing.T) {
	a, b := onePacket(3), onePacket(5)
	checkTurns(t, []turnCase{
		{"of New, Old is empty", fairOf(500, 9, []int{3}, nil), map[int]int{3: 70}, nil, nil, map[int]int{3: 70}, -1},
		{"of New, more of New", fairOf(500, 9, []int{3, 5}, nil, b), map[int]int{3: 70, 5: 1}, []int{5}, nil, map[int]int{3: 70, 5: -399}, 5},
		{"of New, Old is not empty", fairOf(500, 9, []int{3}, []int{5}, b), map[int]int{3: 70, 5: 1}, nil, []int{5, 3}, map[int]int{3: 70, 5: -399}, 5},
		{"of New, Old has an empty one", fairOf(500, 9, []int{3}, []int{5}), map[int]int{3: 70, 5: 1}, nil, nil, map[int]int{3: 70, 5: 1}, -1},
		{"of New, one of New goes to Old first", fairOf(500, 9, []int{5, 3}, nil, b), map[int]int{3: 70, 5: 0}, nil, []int{5, 3}, map[int]int{3: 70, 5: 100}, 5},
		{"two of New", fairOf(500, 9, []int{3, 4}, []int{5}, b), map[int]int{3: 70, 4: 70, 5: 1}, nil, []int{5, 3, 4}, map[int]int{5: -399}, 5},
		{"of Old, it is alone", fairOf(500, 9, nil, []int{3}), map[int]int{3: 70}, nil, nil, map[int]int{3: 70}, -1},
		{"of Old, it is not alone", fairOf(500, 9, nil, []int{3, 5}, b), map[int]int{3: 70, 5: 1}, nil, []int{5}, map[int]int{3: 70, 5: -399}, 5},
		{"of Old, behind one with packets", fairOf(500, 9, nil, []int{3, 5}, a), map[int]int{3: 70, 5: 1}, nil, []int{3, 5}, map[int]int{3: -330, 5: 1}, 3},
		{"all in Old", fairOf(500, 9, nil, []int{7, 3, 5}), map[int]int{3: 70, 5: 0, 7: -700}, nil, nil, map[int]int{3: 70, 5: 500, 7: 300}, -1},
	})
	f := fairOf(500, 9, []int{1, 0, 2}, []int{15, 8, 9, 14})
	for number := range f.Lines {
		f.Lines[number].Codel = impl.Codel{Target: 5, Interval: 100, First: 40, Next: 30, Count: 3, Last: 1, Dropping: true}
		f.Lines[number].Short = number - 8
	}
	o := checkTurn(t, f, 50)
	for number, line := range o.fair.Lines {
		listed := slices.Contains(slices.Concat(f.New, f.Old), number)
		if line.Codel.Dropping == listed || (line.Codel.First == 0) != listed {
			t.Errorf("the Codel of %d is %v", number, line.Codel)
		}
	}
}

// lateFair has a line 3 of New and a line 5 of Old whose Codels hit whoever is first.
func lateFair(ecn int, sizes ...int) impl.Fair {
	f := fairOf(500, 20, []int{3}, []int{5})
	for _, flow := range []int{3, 5} {
		line := &f.Lines[flow]
		line.Short = 450
		line.Codel = impl.Codel{Target: 5, Interval: 100, First: 150, Next: 250, Count: 3, Last: 1, Dropping: true}
		for i, size := range sizes {
			line.Pkts = append(line.Pkts, impl.Pkt{Id: 10*flow + i, Flow: flow, Size: size, Ecn: ecn})
		}
	}
	return f
}

func checkIds(t *testing.T, o turn, drops []int, id int, name string) {
	t.Helper()
	var ids []int
	for _, p := range o.drops {
		ids = append(ids, p.Id)
	}
	if !slices.Equal(ids, drops) || o.ok != (id >= 0) || o.ok && o.first.Id != id {
		t.Errorf("%s: %v are dropped, want %v; %v, %v", name, ids, drops, o.first, o.ok)
	}
}

// Promise 8: a Codel that drops, and one that marks; Short is less who goes out, not who is dropped.
func TestLatePacketsAreHit(t *testing.T) {
	o := checkTurn(t, lateFair(impl.EcNot, 900, 1000, 800), 250)
	checkIds(t, o, []int{30}, 31, "one is dropped")
	if line := o.fair.Lines[3]; line.Short != -550 || line.Codel.Count != 4 || line.Codel.Next != 300 || !line.Codel.Dropping {
		t.Error("a drop:", line)
	}
	if !sameLine(o.fair.Lines[5], lateFair(impl.EcNot, 900, 1000, 800).Lines[5]) || !slices.Equal(o.fair.New, []int{3}) || !slices.Equal(o.fair.Old, []int{5}) {
		t.Error("the other one:", o.fair)
	}
	for ecn := 1; ecn <= 3; ecn++ {
		o := checkTurn(t, lateFair(ecn, 900, 1000, 800), 250)
		checkIds(t, o, nil, 30, "one is marked")
		if o.first.Ecn != impl.EcCe || o.fair.Lines[3].Short != -450 || o.fair.Lines[3].Pkts[0].Ecn != ecn {
			t.Error("a mark:", o)
		}
	}
	f := lateFair(impl.EcNot, 900, 1000, 800)
	f.Lines[3].Codel.Dropping, f.Lines[3].Codel.First = false, 0
	o = checkTurn(t, f, 250)
	checkIds(t, o, nil, 30, "late for the first time")
	if o.fair.Lines[3].Codel.First != 350 || o.fair.Lines[3].Short != -450 {
		t.Error("late for the first time:", o.fair.Lines[3])
	}
}

// Promise 8: several that are dropped, of one line and of more, in order; lines that are emptied by it, of New and of Old.
func TestSeveralAreDroppedInOrder(t *testing.T) {
	o := checkTurn(t, lateFair(impl.EcNot, 700, 700, 700, 700, 700, 700), 344)
	checkIds(t, o, []int{30, 31, 32}, 33, "three of one line")
	o = checkTurn(t, lateFair(impl.EcNot, 1, 1600), 1000)
	checkIds(t, o, []int{30, 31, 50, 51}, -1, "all of both lines")
	if len(o.fair.New) != 0 || len(o.fair.Old) != 0 || o.fair.Lines[3].Short != 450 || o.fair.Lines[5].Short != 450 {
		t.Error("all of both lines:", o.fair)
	}
	f := lateFair(impl.EcNot, 1, 1600)
	f.Lines[5].Pkts = append(f.Lines[5].Pkts, impl.Pkt{Id: 77, Flow: 5, Size: 600})
	o = checkTurn(t, f, 1000)
	checkIds(t, o, []int{30, 31, 50, 51}, 77, "all of New, some of Old")
	if len(o.fair.New) != 0 || !slices.Equal(o.fair.Old, []int{5, 3}) || o.fair.Lines[5].Short != -150 {
		t.Error("the emptied line of New does not go to Old:", o.fair)
	}
	f.New, f.Old = nil, []int{3, 5}
	o = checkTurn(t, f, 1000)
	checkIds(t, o, []int{30, 31, 50, 51}, 77, "all of one of Old, some of the other")
	if len(o.fair.New) != 0 || !slices.Equal(o.fair.Old, []int{5}) {
		t.Error("the emptied line of Old stays:", o.fair)
	}
	f.New, f.Old = []int{3, 5}, nil
	o = checkTurn(t, f, 1000)
	checkIds(t, o, []int{30, 31, 50, 51}, 77, "all of one of New, some of the other")
	if !slices.Equal(o.fair.New, []int{5}) || len(o.fair.Old) != 0 {
		t.Error("an emptied line of New goes to an Old that is empty:", o.fair)
	}
}

// Promise 8: a now of 0, of MaxTime, one below and one above; at the At of one, and one below it.
func TestNowsOfTurns(t *testing.T) {
	for _, at := range []int{0, 1, 2, 500, impl.MaxTime - 1, impl.MaxTime} {
		for _, which := range []impl.Pkt{{Id: 90, Flow: 3}, {Id: 91, Flow: 7}, {Id: 92, Flow: 15}, {Id: 93, Flow: 4}} {
			f := fairOf(1500, 9, []int{3, 7}, []int{15, 4}, impl.Pkt{Id: 1, Flow: 3, Size: 1}, impl.Pkt{Id: 2, Flow: 15, Size: 9})
			which.Size, which.At = 900, at
			f.Lines[which.Flow].Pkts = append(f.Lines[which.Flow].Pkts, which)
			checkTurn(t, f, at)
			checkTurn(t, f, impl.MaxTime)
			checkNoTurn(t, f, at-1, "ahead of an At")
			checkNoTurn(t, f, min(-1, at-2), "a now below 0")
			checkNoTurn(t, f, impl.MaxTime+1, "a now above MaxTime")
		}
	}
	for _, f := range []impl.Fair{emptyFair(500, 9), fairOf(500, 9, []int{3}, []int{5}), fairOf(500, 9, []int{3}, nil, impl.Pkt{Flow: 3, Size: 5})} {
		for _, now := range []int{0, 1, impl.MaxTime - 1, impl.MaxTime} {
			checkTurn(t, f, now)
		}
		for _, now := range []int{-1, -2, impl.MaxTime + 1, impl.MaxTime + 2, 2 * impl.MaxTime, 1 << 62, math.MaxInt, math.MinInt, math.MinInt + 1} {
			checkNoTurn(t, f, now, "a now that is none")
		}
	}
}

func TestTurnsOfAllForms(t *testing.T) {
	d := newDice()
	kinds := map[string]int{}
	for range 60000 {
		f := anyFair(d, 1000)
		o := checkTurn(t, f, 1000)
		if t.Failed() {
			t.FailNow()
		}
		for kind, is := range map[string]bool{
			"of New":          o.ok && slices.Contains(o.fair.New, o.first.Flow),
			"of Old":          o.ok && slices.Contains(f.Old, o.first.Flow),
			"of New by Old":   o.ok && slices.Contains(f.New, o.first.Flow) && slices.Contains(o.fair.Old, o.first.Flow),
			"nobody":          !o.ok,
			"all are dropped": !o.ok && len(o.drops) > 0,
			"drops":           o.ok && len(o.drops) > 1,
			"of two lines":    len(o.drops) > 1 && o.drops[0].Flow != o.drops[len(o.drops)-1].Flow,
			"marked":          o.ok && !slices.Contains(f.Lines[o.first.Flow].Pkts, o.first),
			"a list is left":  len(o.fair.New)+len(o.fair.Old) < len(f.New)+len(f.Old),
		} {
			if is {
				kinds[kind]++
			}
		}
	}
	if len(kinds) != 9 {
		t.Error("one kind is missing:", kinds)
	}
	for kind, count := range kinds {
		if count < 30 {
			t.Error("too few of one kind:", kind, count)
		}
	}
}

// Promise 8: the most rounds there can be end.
func TestLongestTurns(t *testing.T) {
	f := emptyFair(1, 40)
	for number := range f.Lines {
		f.New = append(f.New, number)
		f.Lines[number].Short = -2000
	}
	o := turnOf(f, 0)
	if o.ok || len(o.fair.New)+len(o.fair.Old) != 0 || o.fair.Lines[9].Short != 1 {
		t.Error("empty lines:", o)
	}
	f.Lines[15].Pkts = []impl.Pkt{{Id: 1, Flow: 15, Size: 2000}}
	if o = turnOf(f, 0); !o.ok || !slices.Equal(o.fair.Old, []int{15}) || o.fair.Lines[15].Short != -1999 {
		t.Error("the last one has a packet:", o)
	}
}

// Promise 8: pushes and pops one behind the other; each packet goes out, is dropped or stays, just one of these.
func TestLinesOneBehindTheOther(t *testing.T) {
	d := newDice()
	for _, quantum := range []int{1, 300, 1514, 10000} {
		f, _ := impl.FairNew(quantum, 20, 5, 30)
		now, in, out, lost, hit := 0, 0, 0, 0, 0
		for i := range 8000 {
			now += d.below(4)
			if d.below(100) < 60-i/1000%2*25 {
				var drops []impl.Pkt
				p := impl.Pkt{Id: i, Flow: d.below(3) * d.below(4), Host: d.below(4), Size: 1 + d.below(2000), At: now, Ecn: d.below(4) * d.below(2)}
				f, drops, _ = checkPushed(t, f, p)
				in++
				lost += len(drops)
			} else {
				o := checkTurn(t, f, now)
				f = o.fair
				hit += len(o.drops)
				if o.ok {
					out++
				}
			}
			if crowd(f) != in-out-lost-hit {
				t.Fatalf("%d came, %d went out, %d and %d were dropped, %d are left", in, out, lost, hit, crowd(f))
			}
			if t.Failed() {
				t.FailNow()
			}
		}
		if out < 1000 || lost < 100 || hit < 100 {
			t.Error("too few of one kind:", out, lost, hit)
		}
	}
}

// race lets two flows have packets all the time, with others that come and go, and tells how far one gets ahead of the other at the most.
func race(t *testing.T, d *dice, quantum int, size func(flow int) int, others int) (most int, bytes [2]int) {
	t.Helper()
	f, _ := impl.FairNew(quantum, 40, 1000000000, 1000000000)
	id := 0
	push := func(flow int) {
		next, drops, ok := impl.FairPush(f, impl.Pkt{Id: id, Flow: flow, Size: size(flow), At: id, Ecn: id & 3})
		if f, id = next, id+1; !ok || len(drops) != 0 {
			t.Fatal("there is room for one more:", f, drops)
		}
	}
	ahead, least, greatest := 0, 0, 0
	for range 1500 {
		for flow := range 2 {
			for len(f.Lines[flow].Pkts) < 1+d.below(4) {
				push(flow)
			}
		}
		if other := 2 + d.below(14); others > 0 && d.below(100) < others && impl.FairCount(f) < 30 {
			push(other)
		}
		next, drops, p, ok := impl.FairPop(f, id)
		if f = next; !ok || len(drops) != 0 {
			t.Fatal("nobody goes out:", f, drops)
		}
		if p.Flow < 2 {
			bytes[p.Flow] += p.Size
			ahead += p.Size - 2*p.Flow*p.Size
		}
		least, greatest = min(least, ahead), max(greatest, ahead)
	}
	return greatest - least, bytes
}

// Promise 8: of two flows that have packets all the time none gets ahead by more than Quantum and 2 MaxSize. Both have them from the beginning on:
// one that comes while the other is in Old, and has a Short of 0, has two turns ahead of that one's first, which is more if Quantum is above 2 MaxSize.
func TestNobodyGetsFarAhead(t *testing.T) {
	d := newDice()
	for _, quantum := range []int{1, 40, 1000, 1514, 1999, 2000, 2001, 5000, 10000} {
		for name, size := range map[string]func(int) int{
			"all at their most":  func(int) int { return 2000 },
			"small and large":    func(flow int) int { return 40 + 1960*min(flow, 1) },
			"large and small":    func(flow int) int { return 2000 - 1960*min(flow, 1) },
			"any":                func(int) int { return 1 + d.below(2000) },
			"any beside large":   func(flow int) int { return max(1+d.below(2000), 2000*flow%2001) },
			"mostly small, some": func(int) int { return d.one(1, 30, 40, 50, 2000) },
		} {
			for _, others := range []int{0, 20, 60} {
				most, bytes := race(t, d, quantum, size, others)
				if most > quantum+2*2000 || min(bytes[0], bytes[1])+quantum+2*2000 < max(bytes[0], bytes[1]) {
					t.Errorf("%s, a Quantum of %d: one gets ahead by %d; %v", name, quantum, most, bytes)
				}
				if min(bytes[0], bytes[1]) == 0 {
					t.Errorf("%s, a Quantum of %d: one never goes out; %v", name, quantum, bytes)
				}
			}
		}
	}
}
