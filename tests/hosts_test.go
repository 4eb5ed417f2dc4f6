package tests

import (
	"slices"
	"testing"

	"loop.example/g00453/impl"
)

// anyShape makes shapers with few hosts that have packets, mostly nearly full, and a Next near 1000.
func anyShape(d *dice) impl.Shape {
	s := shapeOf(d.one(1, 7, 500, 1514, 2000, 10000), d.one(1, 2, 5, 9, 20, 40), nil)
	s.Rate = d.one(1000, 125000, 999999937, 1000000000, 1000000000000, 1000+d.below(1<<30))
	s.Over = d.one(0, 1, 38, 200, d.below(201))
	s.Next = d.one(0, 998, 999, 1000, 1001, d.below(3000), impl.MaxTime, 4*impl.MaxTime)
	for host := range s.Lines {
		s.Lines[host].Short = min(12000, d.one(0, 1, -1, 2, s.Quant, -s.Quant%1000, 1-s.Quant%1000, d.below(2*s.Quant), -d.below(min(2001, 3*s.Quant)), -2000, 12000))
	}
	order := d.order(4)[:d.below(5)]
	if len(order) == 0 {
		return s
	}
	for i := range d.one(0, 1, s.Limit/2, s.Limit-1, s.Limit) {
		line := &s.Lines[order[d.below(len(order))]]
		at := 960 + d.below(40)
		if len(line.Pkts) > 0 {
			at = line.Pkts[len(line.Pkts)-1].At + d.below(4)
		}
		line.Pkts = append(line.Pkts, impl.Pkt{Id: 100 - i, Flow: d.below(16), Size: d.one(1, 500, 1000, 1500, 2000, 1+d.below(2000)), At: at, Ecn: d.below(4)})
	}
	for _, host := range order {
		for i := range s.Lines[host].Pkts {
			s.Lines[host].Pkts[i].Host = host
		}
		if len(s.Lines[host].Pkts) > 0 {
			s.Turn = append(s.Turn, host)
		}
	}
	return s
}

// wrongedShape changes one thing, which is mostly no longer as it should be then.
func wrongedShape(d *dice, s impl.Shape) impl.Shape {
	s = clonedShape(s)
	line := &s.Lines[d.below(4)]
	switch d.below(9) {
	case 0:
		c := shapeFields()[d.below(5)]
		*c.of(&s) = d.one(c.least-1, c.least, c.most, c.most+1)
	case 1:
		s.Lines = s.Lines[:3]
	case 2:
		s.Lines = append(s.Lines, impl.Line{})
	case 3:
		s.Turn = append(s.Turn, d.below(6)-1)
	case 4:
		s.Turn = s.Turn[min(1, len(s.Turn)):]
	case 5:
		line.Short = d.one(-2001, -2000, 12000, 12001)
	case 6:
		fields := codelFields()
		*fields[d.below(len(fields))].of(&line.Codel) = d.below(3) - 1
		line.Codel.Dropping = d.below(5) == 0
	case 7:
		line.Pkts = append(line.Pkts, impl.Pkt{Id: d.below(101), Host: d.below(4), Size: 1 + d.below(2), At: d.below(10000)})
	case 8:
		if len(line.Pkts) > 0 {
			fields := packetFields()
			*fields[d.below(len(fields))].of(&line.Pkts[d.below(len(line.Pkts))]) = d.below(20) - 1
		}
	}
	return s
}

func TestShapesOfAllForms(t *testing.T) {
	d := newDice()
	well, ill := 0, 0
	for range 40000 {
		s := anyShape(d)
		checkShape(t, s, "any")
		if s = wrongedShape(d, s); shaperOk(s) {
			checkShape(t, s, "any that is well yet")
			well++
		} else {
			checkNoShape(t, s, "any that is wrong")
			ill++
		}
		if t.Failed() {
			t.FailNow()
		}
	}
	if well < 1000 || ill < 1000 {
		t.Error("too few of one kind:", well, ill)
	}
}

// joined is ShapePush of what is as it should be, by another road: all packets are laid in one list and parted again.
func joined(s impl.Shape, p impl.Pkt) (impl.Shape, bool) {
	s = clonedShape(s)
	var all []impl.Pkt
	for _, line := range s.Lines {
		all = append(all, line.Pkts...)
	}
	stands := func(other impl.Pkt) bool { return other.Id == p.Id || other.Host == p.Host && p.At < other.At }
	if len(all) >= s.Limit || slices.ContainsFunc(all, stands) {
		return s, false
	}
	if !slices.Contains(s.Turn, p.Host) {
		s.Turn, s.Lines[p.Host].Short = append(s.Turn, p.Host), s.Quant
	}
	for host := range s.Lines {
		s.Lines[host].Pkts = nil
	}
	for _, one := range append(all, p) {
		s.Lines[one.Host].Pkts = append(s.Lines[one.Host].Pkts, one)
	}
	return s, true
}

func checkJoined(t *testing.T, s impl.Shape, p impl.Pkt) (impl.Shape, bool) {
	t.Helper()
	want, well := joined(s, p)
	got, ok := impl.ShapePush(s, p)
	if ok != well || !sameShape(got, want) {
		t.Errorf("ShapePush(%v, %v) = %v, %v, want %v, %v", s, p, got, ok, want, well)
	}
	checkShape(t, got, "behind a push")
	return got, ok
}

// Promise 9: a packet of a host that has a turn, and of one that has none.
func TestHostsJoin(t *testing.T) {
	for _, c := range []struct {
		host, short int
		turn        []int
	}{
		{0, 800, []int{2, 0, 3}}, {1, 1000, []int{2, 0, 3, 1}}, {2, 1000, []int{2, 0, 3}}, {3, -100, []int{2, 0, 3}},
	} {
		p := impl.Pkt{Id: 99, Flow: 5, Host: c.host, Size: 123, At: 50, Ecn: 2}
		got, ok := checkJoined(t, ordinaryShape(), p)
		want := ordinaryShape()
		want.Turn = c.turn
		want.Lines[c.host].Short = c.short
		want.Lines[c.host].Pkts = append(want.Lines[c.host].Pkts, p)
		if !ok || !sameShape(got, want) {
			t.Errorf("a packet of %d: %v, %v", c.host, got, ok)
		}
	}
	for host := range 4 {
		for _, short := range []int{-2000, 0, 1, 12000} {
			s := shapeOf(10000, 1, nil)
			s.Next, s.Lines[host].Short = 4*impl.MaxTime, short
			p := impl.Pkt{Id: 0, Host: host, Size: 2000, At: impl.MaxTime}
			got, ok := checkJoined(t, s, p)
			if !ok || !slices.Equal(got.Turn, []int{host}) || got.Lines[host].Short != 10000 || !slices.Equal(got.Lines[host].Pkts, []impl.Pkt{p}) || got.Next != s.Next {
				t.Errorf("the first one of all: %v, %v", got, ok)
			}
		}
	}
}

// Promise 9: a packet whose Id is there, in its own host's line and in another one.
func TestIdsOfHostsAreApart(t *testing.T) {
	for id := range 8 {
		for host := range 4 {
			s := ordinaryShape()
			got, ok := checkJoined(t, s, impl.Pkt{Id: id, Host: host, Size: 1, At: 100})
			if there := id >= 1 && id <= 5; ok == there || there && !sameShape(got, s) {
				t.Errorf("an Id of %d for %d: %v, %v", id, host, got, ok)
			}
		}
	}
}

// Promise 9: an At that is the last one's of its Host, one below and one above; that of another Host, and the Flow, play no part.
func TestAtsOfHosts(t *testing.T) {
	for host, last := range map[int]int{0: 20, 2: 15, 3: 5} {
		for at := last - 5; at <= last+2; at++ {
			for flow := range 16 {
				s := ordinaryShape()
				got, ok := checkJoined(t, s, impl.Pkt{Id: 50, Flow: flow, Host: host, Size: 1, At: at})
				if ok != (at >= last) || !ok && !sameShape(got, s) {
					t.Errorf("an At of %d behind %d: %v, %v", at, last, got, ok)
				}
			}
		}
	}
	if _, ok := checkJoined(t, ordinaryShape(), impl.Pkt{Id: 50, Host: 1, Size: 1, At: 0}); !ok {
		t.Error("an At of 0 in an empty line is refused")
	}
}

// Promise 9: a push beside one fewer than Limit packets, and beside just Limit.
func TestJoiningAtLimit(t *testing.T) {
	for limit := 1; limit <= 40; limit++ {
		for hosts := 1; hosts <= 4; hosts++ {
			s, _ := impl.ShapeNew(1000, 0, 1514, limit)
			for i := range limit + 3 {
				next, ok := checkJoined(t, s, impl.Pkt{Id: i, Host: i % hosts, Size: 100, At: i / 2})
				if ok != (i < limit) || !ok && !sameShape(next, s) {
					t.Fatalf("packet %d of at most %d: %v, %v", i, limit, next, ok)
				}
				s = next
			}
			if got, ok := checkJoined(t, s, impl.Pkt{Id: 99, Host: 3, Size: 1, At: 99}); ok || !sameShape(got, s) {
				t.Errorf("one more than Limit: %v", got)
			}
		}
	}
}

// Promise 9: a packet that is none, for a shaper that is full, and for one that is not; that it is none counts first.
func TestJoiningOfNoPacket(t *testing.T) {
	for _, limit := range []int{5, 7} {
		s := ordinaryShape()
		s.Limit = limit
		for _, c := range packetFields() {
			for _, v := range append(wrongNumbers(c.most), c.least-1) {
				for _, p := range []impl.Pkt{{Id: 9, Host: 3, Size: 1, At: 100}, {Id: 1, Host: 2, Size: 1, At: 0}} {
					*c.of(&p) = v
					checkNoShapePush(t, s, p, c.name)
				}
			}
			for _, v := range []int{c.least, c.most} {
				p := impl.Pkt{Id: 9, Host: 1, Size: 1, At: 100}
				*c.of(&p) = v
				checkJoined(t, s, p)
			}
		}
		checkNoShapePush(t, s, impl.Pkt{}, "zero value")
	}
}

func TestJoiningOfAllForms(t *testing.T) {
	d := newDice()
	let, refused, fresh := 0, 0, 0
	for range 40000 {
		s := anyShape(d)
		p := impl.Pkt{Id: d.one(500, 500, 500, 100-d.below(40)), Flow: d.below(16), Host: d.below(4), Size: d.one(1, 500, 2000, 1+d.below(2000)), At: 940 + d.below(100), Ecn: d.below(4)}
		got, ok := checkJoined(t, s, p)
		switch {
		case !ok:
			refused++
		case len(got.Turn) > len(s.Turn):
			fresh++
		default:
			let++
		}
		if t.Failed() {
			t.FailNow()
		}
	}
	if let < 1000 || refused < 1000 || fresh < 1000 {
		t.Error("too few of one kind:", let, refused, fresh)
	}
}

// roomyShape has spare room behind all lists, filled with what might be taken for theirs.
func roomyShape(s impl.Shape) (impl.Shape, impl.Fair) {
	f := roomyFair(lined(s))
	s.Lines, s.Turn = f.Lines, f.New
	return s, f
}

// Answers share nothing with arguments or with each other, and nothing is written into these or behind them.
func TestShapesAreNewMemory(t *testing.T) {
	d := newDice()
	for range 4000 {
		was := anyShape(d)
		s, room := roomyShape(was)
		for _, p := range []impl.Pkt{{Id: d.one(500, 100), Host: d.below(4), Size: 1 + d.below(2000), At: 970 + d.below(40)}, {}} {
			want, _ := impl.ShapePush(was, p)
			got, _ := impl.ShapePush(s, p)
			if !sameShape(got, want) {
				t.Errorf("what lies behind the length was read: %v", got)
			}
			checkApart(t, lined(got), nil, "ShapePush")
			checkRoomyFair(t, room, lined(was), "ShapePush")
		}
		for _, now := range []int{impl.MaxTime, 1000, 0, -1} {
			want, one, _ := impl.ShapePop(was, now)
			got, first, _ := impl.ShapePop(s, now)
			if !sameShape(got, want) || one != first {
				t.Errorf("what lies behind the length was read: %v, want %v", got, want)
			}
			checkApart(t, lined(got), nil, "ShapePop")
			checkRoomyFair(t, room, lined(was), "ShapePop")
		}
		checkShape(t, s, "with room behind it")
		checkRoomyFair(t, room, lined(was), "asking")
		if t.Failed() {
			t.FailNow()
		}
	}
	s, _ := impl.ShapeNew(125000, 38, 1514, 20)
	checkApart(t, lined(s), nil, "ShapeNew")
	if again, ok := impl.ShapeNew(125000, 38, 1514, 20); !ok || !sameFair(lined(again), lined(shapeOf(1514, 20, nil))) {
		t.Error("two answers share memory:", again)
	}
}

// A list that is empty and one that is nil are the same.
func TestEmptyTurnsAreNil(t *testing.T) {
	s := shapeOf(1514, 20, nil)
	g := clonedShape(s)
	g.Turn = []int{}
	for host := range g.Lines {
		g.Lines[host].Pkts = []impl.Pkt{}
	}
	checkShape(t, s, "nil")
	checkShape(t, g, "empty")
	a, _ := checkJoined(t, s, impl.Pkt{Id: 3, Host: 2, Size: 1})
	b, _ := checkJoined(t, g, impl.Pkt{Id: 3, Host: 2, Size: 1})
	if !sameShape(a, b) || !outletOf(s, 9).same(outletOf(g, 9)) {
		t.Error("they are told apart:", a, b)
	}
}
