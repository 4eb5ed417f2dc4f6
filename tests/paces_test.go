package tests

import (
	"math"
	"slices"
	"testing"

	"loop.example/g00453/impl"
)

type outlet struct {
	shape impl.Shape
	first impl.Pkt
	ok    bool
}

func outletOf(s impl.Shape, now int) outlet {
	shape, first, ok := impl.ShapePop(s, now)
	return outlet{shape, first, ok}
}

func (o outlet) same(other outlet) bool {
	return sameShape(o.shape, other.shape) && o.first == other.first && o.ok == other.ok
}

// letOut is ShapePop of what is as it should be, by another road: how many rounds each host needs is reckoned, and the first one with the fewest goes.
func letOut(s impl.Shape, now int) outlet {
	s = clonedShape(s)
	if len(s.Turn) == 0 || now < s.Next {
		return outlet{shape: s}
	}
	var needs []int
	for _, host := range s.Turn {
		rounds := 0
		if short := s.Lines[host].Short; short < 1 {
			rounds = -short/s.Quant + 1
		}
		needs = append(needs, rounds)
	}
	rounds := slices.Min(needs)
	at := slices.Index(needs, rounds)
	for place, host := range s.Turn {
		s.Lines[host].Short += rounds * s.Quant
		if place < at {
			s.Lines[host].Short += s.Quant
		}
	}
	host := s.Turn[at]
	order := slices.Concat(s.Turn[at+1:], s.Turn[:at])
	line := &s.Lines[host]
	first := line.Pkts[0]
	line.Pkts = line.Pkts[1:]
	line.Short -= first.Size
	if len(line.Pkts) > 0 {
		order = slices.Insert(order, 0, host)
	}
	cost, _ := duration(first.Size+s.Over, s.Rate)
	s.Turn, s.Next = order, now+cost
	return outlet{s, first, true}
}

// checkOutlet asks the promise itself too: nothing goes out ahead of Ready, and what goes out costs its time.
func checkOutlet(t *testing.T, s impl.Shape, now int) outlet {
	t.Helper()
	want, got := letOut(s, now), outletOf(s, now)
	if !got.same(want) {
		t.Errorf("ShapePop(%v, %d) = %v, want %v", s, now, got, want)
	}
	checkShape(t, got.shape, "behind a pop")
	ready, has := impl.Ready(s)
	if got.ok != (has && now >= ready) {
		t.Errorf("at %d, with a Ready of %d, %v: %v", now, ready, has, got)
	}
	if !got.ok && (!sameShape(got.shape, s) || got.first != (impl.Pkt{})) {
		t.Errorf("nobody went out, but it became %v, %v", got.shape, got.first)
	}
	if cost, _ := impl.Cost(s, got.first.Size); got.ok && got.shape.Next != now+cost {
		t.Errorf("at %d one of a cost of %d went out; Next is %d", now, cost, got.shape.Next)
	}
	return got
}

// outletCase tells by hand Turn, Shorts and the Id behind a pop at 50.
type outletCase struct {
	name   string
	s      impl.Shape
	shorts map[int]int
	turn   []int
	after  map[int]int
	id     int
}

func checkOutlets(t *testing.T, list []outletCase) {
	t.Helper()
	for _, c := range list {
		for host, short := range c.shorts {
			c.s.Lines[host].Short = short
		}
		o := checkOutlet(t, c.s, 50)
		if !o.ok || o.first.Id != c.id || !slices.Equal(o.shape.Turn, c.turn) {
			t.Errorf("%s: %v, %v, Turn is %v", c.name, o.first, o.ok, o.shape.Turn)
		}
		for host, short := range c.after {
			if got := o.shape.Lines[host].Short; got != short {
				t.Errorf("%s: Short of %d is %d, want %d", c.name, host, got, short)
			}
		}
	}
}

// twoOf is two packets of 400 bytes, the first with its Host as Id.
func twoOf(host int) []impl.Pkt {
	return []impl.Pkt{{Id: host, Host: host, Size: 400, At: 48}, {Id: 10 + host, Host: host, Size: 400, At: 48}}
}

func hostsOf(quant int, turn ...int) impl.Shape {
	var all []impl.Pkt
	for _, host := range turn {
		all = append(all, twoOf(host)...)
	}
	return shapeOf(quant, 9, turn, all...)
}

// Promise 9: a Short of 0, of 1 and below 0, of the first one and of all, with a Quant of 1 too.
func TestShortsInTurns(t *testing.T) {
	checkOutlets(t, []outletCase{
		{"1", hostsOf(500, 3, 1), map[int]int{3: 1, 1: 1}, []int{3, 1}, map[int]int{3: -399, 1: 1}, 3},
		{"0", hostsOf(500, 3, 1), map[int]int{3: 0, 1: 1}, []int{1, 3}, map[int]int{3: 500, 1: -399}, 1},
		{"below 0", hostsOf(500, 3, 1), map[int]int{3: -1, 1: 1}, []int{1, 3}, map[int]int{3: 499, 1: -399}, 1},
		{"0 alone", hostsOf(500, 3), map[int]int{3: 0}, []int{3}, map[int]int{3: 100}, 3},
		{"0 of all", hostsOf(500, 3, 1, 0), map[int]int{3: 0, 1: 0, 0: 0}, []int{3, 1, 0}, map[int]int{3: 100, 1: 500, 0: 500}, 3},
		{"1 of the second", hostsOf(500, 3, 1, 0), map[int]int{3: 0, 1: 1, 0: 1}, []int{1, 0, 3}, map[int]int{3: 500, 1: -399, 0: 1}, 1},
		{"1 of the last", hostsOf(500, 3, 1, 0), map[int]int{3: 0, 1: 0, 0: 1}, []int{0, 3, 1}, map[int]int{3: 500, 1: 500, 0: -399}, 0},
		{"several rounds", hostsOf(10, 3), map[int]int{3: -25}, []int{3}, map[int]int{3: -395}, 3},
		{"the one with less is later", hostsOf(10, 3, 1), map[int]int{3: -25, 1: -15}, []int{1, 3}, map[int]int{3: 5, 1: -395}, 1},
		{"alike in rounds", hostsOf(10, 3, 1), map[int]int{3: -25, 1: -20}, []int{3, 1}, map[int]int{3: -395, 1: 10}, 3},
		{"a Quant of 1, of the first", hostsOf(1, 3, 1), map[int]int{3: 0, 1: 1}, []int{1, 3}, map[int]int{3: 1, 1: -399}, 1},
		{"a Quant of 1, of all at 0", hostsOf(1, 3, 1), map[int]int{3: 0, 1: 0}, []int{3, 1}, map[int]int{3: -399, 1: 1}, 3},
		{"a Quant of 1, of all below 0", hostsOf(1, 3, 1), map[int]int{3: -7, 1: -6}, []int{1, 3}, map[int]int{3: 1, 1: -399}, 1},
		{"the ends", hostsOf(1, 3, 1, 0, 2), map[int]int{3: -2000, 1: -2000, 0: -2000, 2: -2000}, []int{3, 1, 0, 2}, map[int]int{3: -399, 1: 1, 0: 1, 2: 1}, 3},
		{"the ends but for the last", hostsOf(1, 3, 1, 0, 2), map[int]int{3: -2000, 1: -2000, 0: -2000, 2: -1999}, []int{2, 3, 1, 0}, map[int]int{3: 1, 1: 1, 0: 1, 2: -399}, 2},
		{"the other ends", hostsOf(10000, 3, 1), map[int]int{3: 12000, 1: 12000}, []int{3, 1}, map[int]int{3: 11600, 1: 12000}, 3},
		{"who has no turn gets nothing", hostsOf(500, 3), map[int]int{3: -700, 1: -5, 0: 0, 2: 9}, []int{3}, map[int]int{3: -100, 1: -5, 0: 0, 2: 9}, 3},
	})
}

// Promise 9: a host whose last packet goes out, first, in the middle and alone.
func TestLastPacketsOfHosts(t *testing.T) {
	last := func(quant int, host int, turn ...int) impl.Shape {
		s := hostsOf(quant, turn...)
		s.Lines[host].Pkts = s.Lines[host].Pkts[:1]
		return s
	}
	checkOutlets(t, []outletCase{
		{"alone", last(500, 2, 2), map[int]int{2: 500}, nil, map[int]int{2: 100}, 2},
		{"alone, with a round", last(500, 2, 2), map[int]int{2: -500}, nil, map[int]int{2: 100}, 2},
		{"the first", last(500, 2, 2, 0, 1), map[int]int{2: 1, 0: 1, 1: 1}, []int{0, 1}, map[int]int{2: -399, 0: 1, 1: 1}, 2},
		{"behind one that waits", last(500, 0, 2, 0, 1), map[int]int{2: 0, 0: 1, 1: 1}, []int{1, 2}, map[int]int{2: 500, 0: -399, 1: 1}, 0},
		{"the last", last(500, 1, 2, 0, 1), map[int]int{2: 0, 0: 0, 1: 1}, []int{2, 0}, map[int]int{2: 500, 0: 500, 1: -399}, 1},
		{"another one's", last(500, 1, 2, 0, 1), map[int]int{2: 1, 0: 0, 1: 1}, []int{2, 0, 1}, map[int]int{2: -399}, 2},
	})
}

// Promise 9: a now at Next, one below and one above; of 0, of MaxTime, one below and one above; with Turn empty and not.
func TestNowsOfOutlets(t *testing.T) {
	for _, next := range []int{0, 1, 2, 500, impl.MaxTime - 1, impl.MaxTime, impl.MaxTime + 1, 4 * impl.MaxTime} {
		for _, s := range []impl.Shape{ordinaryShape(), hostsOf(1, 3, 1), shapeOf(500, 9, nil)} {
			s.Next = next
			for _, now := range []int{0, 1, next - 1, next, next + 1, impl.MaxTime - 1, impl.MaxTime} {
				if now >= 0 && now <= impl.MaxTime {
					checkOutlet(t, s, now)
				}
			}
			for _, now := range append(wrongNumbers(impl.MaxTime), -next-1, max(next, impl.MaxTime+1), 4*impl.MaxTime, math.MaxInt) {
				checkNoShapePop(t, s, now, "a now that is none")
			}
		}
	}
	s := hostsOf(500, 3, 1)
	s.Next = 700
	for now, well := range map[int]bool{699: false, 700: true, 701: true} {
		if o := checkOutlet(t, s, now); o.ok != well {
			t.Errorf("at %d, with a Next of 700: %v", now, o)
		}
	}
	for _, now := range []int{0, 699, 700, impl.MaxTime} {
		empty := shapeOf(500, 9, nil)
		empty.Next = 700
		if o := outletOf(empty, now); o.ok || o.first != (impl.Pkt{}) || !sameShape(o.shape, empty) {
			t.Errorf("at %d, without a turn: %v", now, o)
		}
	}
}

// An At above now keeps nobody back: the chapter names Next alone.
func TestAtsBehindNow(t *testing.T) {
	s := shapeOf(500, 9, []int{3}, impl.Pkt{Id: 7, Host: 3, Size: 400, At: impl.MaxTime})
	if o := checkOutlet(t, s, 0); !o.ok || o.first.Id != 7 {
		t.Error(o)
	}
}

// Promise 9: Next is now and the cost, by hand, at the ends of Rate, Over, Size and now.
func TestNextByHand(t *testing.T) {
	for _, c := range []struct{ rate, over, size, now, want int }{
		{1000000, 50, 950, 7, 1000007}, {1000, 200, 2000, impl.MaxTime, impl.MaxTime + 2200000000}, {1000, 0, 1, 0, 1000000},
		{1000000000000, 0, 1, 0, 1}, {1000000000000, 200, 2000, 9, 12}, {1000000000000, 0, 1000, impl.MaxTime, impl.MaxTime + 1}, {3000, 0, 1, 10, 333344}, {125000, 38, 1462, 0, 12000000},
	} {
		s := shapeOf(1, 1, []int{2}, impl.Pkt{Id: 1, Host: 2, Size: c.size})
		s.Rate, s.Over = c.rate, c.over
		if o := checkOutlet(t, s, c.now); !o.ok || o.shape.Next != c.want {
			t.Errorf("%d bytes, with %d, at %d: Next is %d, want %d", c.size, c.over, c.rate, o.shape.Next, c.want)
		}
	}
}

// The packet that goes out is what came: nothing of it is changed.
func TestOutletsOfOrdinaryShapes(t *testing.T) {
	s := ordinaryShape()
	var ids []int
	for now := 500; len(s.Turn) > 0; now = s.Next {
		o := checkOutlet(t, s, now)
		host := o.first.Host
		if !o.ok || o.first != s.Lines[host].Pkts[0] || !slices.Equal(o.shape.Lines[host].Pkts, s.Lines[host].Pkts[1:]) {
			t.Fatalf("%v became %v", s, o)
		}
		s = o.shape
		ids = append(ids, o.first.Id)
	}
	if !slices.Equal(ids, []int{3, 1, 2, 4, 5}) || s.Next != 500+(2000+700+300+40+60+5*50)*1000 {
		t.Error(ids, s.Next)
	}
}

func TestOutletsOfAllForms(t *testing.T) {
	d := newDice()
	kinds := map[string]int{}
	for range 60000 {
		s := anyShape(d)
		o := checkOutlet(t, s, 1000)
		if t.Failed() {
			t.FailNow()
		}
		for kind, is := range map[string]bool{
			"nobody there":    len(s.Turn) == 0,
			"too early":       len(s.Turn) > 0 && !o.ok,
			"the first":       o.ok && o.first.Host == s.Turn[0],
			"another one":     o.ok && o.first.Host != s.Turn[0],
			"a turn is left":  len(o.shape.Turn) < len(s.Turn),
			"all have a turn": o.ok && len(s.Turn) == 4,
			"rounds":          o.ok && o.shape.Lines[o.first.Host].Short+o.first.Size > s.Lines[o.first.Host].Short+s.Quant,
		} {
			if is {
				kinds[kind]++
			}
		}
	}
	if len(kinds) != 7 {
		t.Error("one kind is missing:", kinds)
	}
	for kind, count := range kinds {
		if count < 300 {
			t.Error("too few of one kind:", kind, count)
		}
	}
}

// sending is what went out when, with what it was wrapped in.
type sending struct{ at, bytes int }

// checkPace asks the promise's second sentence: from any one that went out to any other there went out no more bytes than there was time for, and one packet.
func checkPace(t *testing.T, sent []sending, rate int, name string) {
	t.Helper()
	for i := range sent {
		bytes := 0
		for _, last := range sent[i:] {
			room, ok := impl.BytesOf(last.at-sent[i].at, rate)
			if !ok || bytes > room {
				t.Fatalf("%s, at %d: from %d to %d there is time for %d bytes, %d went out ahead of the last one", name, rate, sent[i].at, last.at, room, bytes)
			}
			bytes += last.bytes
		}
	}
}

// drain pushes and pops many times, so that hosts come and go; wait says how long behind Ready each pop is, and every pop ahead of it is refused.
func drain(t *testing.T, d *dice, s impl.Shape, now int, wait func() int) (sent []sending) {
	t.Helper()
	for id := range 150 {
		for i := range max(d.below(3), 1-crowd(lined(s))) {
			size := d.one(1, 40, 1462, 2000, 1+d.below(2000))
			s, _ = checkJoined(t, s, impl.Pkt{Id: 4*id + i, Flow: d.below(16), Host: d.below(4), Size: size, At: min(now, impl.MaxTime)})
		}
		ready, has := impl.Ready(s)
		if !has {
			t.Fatal("nobody waits:", s)
		}
		if ready > now {
			for _, early := range []int{ready - 1, now, (ready + now) / 2} {
				if o := checkOutlet(t, s, early); o.ok {
					t.Fatalf("at %d, ahead of %d, %v goes out", early, ready, o.first)
				}
			}
		}
		now = max(now, ready) + wait()
		o := checkOutlet(t, s, now)
		if !o.ok {
			t.Fatalf("at %d, not ahead of %d, nobody goes out", now, ready)
		}
		sent = append(sent, sending{now, o.first.Size + s.Over})
		s = o.shape
	}
	return sent
}

// Promise 9: pops of one shaper one behind the other, each at its Ready, and at times behind it.
func TestNoFasterThanTold(t *testing.T) {
	d := newDice()
	for _, rate := range []int{1000, 1001, 3000, 125000, 7777777, 999999937, 1000000000, 3000000000, 999999999999, 1000000000000} {
		for _, over := range []int{0, 1, 38, 200} {
			for _, quant := range []int{1, 1514, 10000} {
				s, _ := impl.ShapeNew(rate, over, quant, 20)
				sent := drain(t, d, s, 0, func() int { return 0 })
				checkPace(t, sent, rate, "each at its Ready")
				late := 2200 * 1000000000 / rate
				sent = drain(t, d, s, 5, func() int { return d.below(2) * d.below(3) * d.below(late+2) / 2 })
				checkPace(t, sent, rate, "some later")
			}
		}
	}
}

// Promise 9: each at its Ready, no time is lost either but what is cut upwards: where all is whole, all time is used.
func TestNoSlowerThanTold(t *testing.T) {
	d := newDice()
	s, _ := impl.ShapeNew(1000000, 38, 1514, 20)
	sent := drain(t, d, s, 0, func() int { return 0 })
	at := 0
	for _, one := range sent {
		if one.at != at {
			t.Fatalf("one went out at %d, not at %d", one.at, at)
		}
		at += one.bytes * 1000
	}
}

// No function keeps anything: answers are the same whatever was asked ahead.
func TestShapesKeepNothing(t *testing.T) {
	d := newDice()
	var list []impl.Shape
	var first []outlet
	for range 1000 {
		list = append(list, anyShape(d))
		first = append(first, outletOf(list[len(list)-1], 1000))
	}
	for i := len(list) - 1; i >= 0; i-- {
		impl.ShapePush(ordinaryShape(), twoOf(i % 4)[1])
		impl.Cost(list[i/2], 1+i)
		outletOf(impl.Shape{}, i)
		if got := outletOf(list[i], 1000); !got.same(first[i]) {
			t.Fatalf("ShapePop was %v, is %v", first[i], got)
		}
	}
}
