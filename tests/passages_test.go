package tests

import (
	"slices"
	"testing"

	"loop.example/g00453/impl"
)

// station is the narrow place by another road: whatever a kind needs stands side by side, and each layer is reckoned as its own tests do.
type station struct {
	kind  int
	line  []impl.Pkt
	red   impl.Red
	codel impl.Codel
	pie   impl.Pie
	fair  impl.Fair
	shape impl.Shape
	trace impl.Trace
}

func stationOf(kind int) *station {
	s := &station{kind: kind, trace: impl.Trace{Ok: true}}
	s.red = impl.Red{MinT: 3000, MaxT: 9000, MaxP: 6553}
	s.codel = impl.Codel{Target: 5000000, Interval: 100000000}
	s.pie = impl.Pie{Target: 15000000, Burst: 150000000}
	s.fair = emptyFair(1514, 20)
	for number := range s.fair.Lines {
		s.fair.Lines[number].Codel = s.codel
	}
	s.shape = shapeOf(1514, 20, nil)
	s.shape.Rate, s.shape.Over = 125000, 38
	return s
}

func (s *station) bytes() (sum int) {
	for _, p := range s.line {
		sum += p.Size
	}
	return sum
}

// hit tells how a packet is hit: 0 not at all, 1 by a mark, 2 by a drop.
func (s *station) hit(p impl.Pkt, draw int) (how int) {
	switch s.kind {
	case impl.QdRed:
		var hits bool
		if s.red, hits = redArrival(s.red, s.bytes(), draw&65535); hits {
			how = 2 - min(p.Ecn, 1)
		}
	case impl.QdPie:
		how = coming(s.pie, draw, s.bytes(), p.Ecn)
	}
	return how
}

func (s *station) comes(p impl.Pkt, draw int) {
	letIn := true
	switch s.kind {
	case impl.QdFair:
		var drops []impl.Pkt
		s.fair, drops, _ = pushed(s.fair, p)
		s.trace.Drops = append(s.trace.Drops, drops...)
	case impl.QdShape:
		s.shape, letIn = joined(s.shape, p)
	default:
		how := s.hit(p, draw)
		if how == 1 {
			p.Ecn = 3
		}
		if letIn = how < 2 && len(s.line) < 20; letIn {
			s.line = append(s.line, p)
		}
	}
	if !letIn {
		s.trace.Drops = append(s.trace.Drops, p)
	}
}

func (s *station) pops() {
	var o outcome
	switch s.kind {
	case impl.QdFair:
		out := served(s.fair, s.trace.Now)
		s.fair, o.drops, o.first, o.ok = out.fair, out.drops, out.first, out.ok
	case impl.QdShape:
		out := letOut(s.shape, s.trace.Now)
		s.shape, o.first, o.ok = out.shape, out.first, out.ok
	case impl.QdCodel:
		o = outOf(s.codel, impl.Fifo{Pkts: s.line, Limit: 20}, s.trace.Now)
		s.codel, s.line = o.codel, o.rest.Pkts
	default:
		if o.ok = len(s.line) > 0; o.ok {
			o.first, s.line = s.line[0], s.line[1:]
		}
	}
	s.trace.Drops = append(s.trace.Drops, o.drops...)
	if o.ok {
		s.trace.Outs, s.trace.Times = append(s.trace.Outs, o.first), append(s.trace.Times, s.trace.Now)
	}
}

func (s *station) ticks() {
	if s.kind != impl.QdPie {
		return
	}
	delay := 0
	if len(s.line) > 0 {
		delay = s.trace.Now - s.line[0].At
	}
	s.pie = updated(s.pie, min(delay, 10000000000))
}

func (s *station) left() []impl.Pkt {
	left := slices.Clone(s.line)
	for _, line := range slices.Concat(s.fair.Lines, s.shape.Lines) {
		left = append(left, line.Pkts...)
	}
	return left
}

// reckoned is Run of what is as it should be, by another road.
func reckoned(kind int, script []impl.Event) impl.Trace {
	s := stationOf(kind)
	came := 0
	for _, e := range script {
		s.trace.Now += e.Gap
		switch e.Kind {
		case impl.EvCome:
			came++
			s.comes(impl.Pkt{Id: came, Flow: e.Flow, Host: e.Host, Size: e.Size, At: s.trace.Now, Ecn: e.Ecn}, e.Draw)
		case impl.EvPop:
			s.pops()
		case impl.EvTick:
			s.ticks()
		}
	}
	s.trace.Left = s.left()
	return s.trace
}

// cameBy has what the events of a script tell of packets, from the Id 1 on.
func cameBy(script []impl.Event) (all []impl.Pkt, now int) {
	for _, e := range script {
		now += e.Gap
		if e.Kind == impl.EvCome {
			all = append(all, impl.Pkt{Id: len(all) + 1, Flow: e.Flow, Host: e.Host, Size: e.Size, At: now, Ecn: e.Ecn})
		}
	}
	return all, now
}

// checkFates asks the promise's first two sentences: every packet that came is found once among Outs, Drops and Left, as what it was but for a mark; those of one flow and host go out in order.
func checkFates(t *testing.T, kind int, script []impl.Event, x impl.Trace) {
	t.Helper()
	all, now := cameBy(script)
	found := slices.Concat(x.Outs, x.Drops, x.Left)
	slices.SortFunc(found, func(a, b impl.Pkt) int { return a.Id - b.Id })
	if len(found) != len(all) || x.Now != now || len(x.Times) != len(x.Outs) {
		t.Fatalf("kind %d: %d came up to %d, %d are found: %v", kind, len(all), now, len(found), x)
	}
	for i, was := range all {
		got := found[i]
		if got.Ecn != was.Ecn {
			if got.Ecn != impl.EcCe || was.Ecn == impl.EcNot || kind == impl.QdTail || kind == impl.QdShape {
				t.Fatalf("kind %d: %v became %v", kind, was, got)
			}
			got.Ecn = was.Ecn
		}
		if got != was {
			t.Fatalf("kind %d: %v became %v", kind, was, got)
		}
	}
	for _, list := range [][]impl.Pkt{x.Outs, x.Left} {
		last := map[[2]int]int{}
		for _, p := range list {
			if p.Id <= last[[2]int{p.Flow, p.Host}] {
				t.Fatalf("kind %d: %v is out of order: %v", kind, p, list)
			}
			last[[2]int{p.Flow, p.Host}] = p.Id
		}
	}
	if len(x.Left) > 20 || !slices.IsSorted(x.Times) {
		t.Fatalf("kind %d: %v", kind, x)
	}
}

// checkWrapped asks promise 9's second sentence of what a shaper let out.
func checkWrapped(t *testing.T, x impl.Trace, name string) {
	t.Helper()
	var sent []sending
	for i, p := range x.Outs {
		sent = append(sent, sending{x.Times[i], p.Size + 38})
	}
	checkPace(t, sent, 125000, name)
}

// checkPassage asks one script of one kind, all but its beginnings.
func checkPassage(t *testing.T, kind int, script []impl.Event) impl.Trace {
	t.Helper()
	x := impl.Run(kind, script)
	if want := reckoned(kind, script); !sameTrace(x, want) {
		t.Fatalf("Run(%d, %v) = %v, want %v", kind, script, x, want)
	}
	checkFates(t, kind, script, x)
	if kind == impl.QdShape {
		checkWrapped(t, x, "any")
	}
	return x
}

func beginsWith[T comparable](whole, part []T) bool {
	return len(part) <= len(whole) && slices.Equal(whole[:len(part)], part)
}

// checkBeginningsOfScript asks the promise's last sentence of every beginning, the empty one and the whole with them.
func checkBeginningsOfScript(t *testing.T, kind int, script []impl.Event) {
	t.Helper()
	whole := checkPassage(t, kind, script)
	last := impl.Trace{}
	for length := range len(script) + 1 {
		x := impl.Run(kind, script[:length:length])
		if !x.Ok || !beginsWith(whole.Outs, x.Outs) || !beginsWith(whole.Times, x.Times) || !beginsWith(whole.Drops, x.Drops) {
			t.Fatalf("kind %d: the first %d events of %v: %v, of the whole: %v", kind, length, script, x, whole)
		}
		if !beginsWith(x.Outs, last.Outs) || !beginsWith(x.Drops, last.Drops) {
			t.Fatalf("kind %d: the first %d events of %v take back what went out or was dropped: %v, %v", kind, length, script, last, x)
		}
		checkFates(t, kind, script[:length], x)
		last = x
	}
}

// manner says how a script is made: how many pops and ticks there are for ten packets, how far events are apart, how many flows there are, how many of ten draws are low, and the least size.
type manner struct {
	pops, ticks int
	gap         int
	flows       int
	low         int
	size        int
}

func anyManner(d *dice) manner {
	return manner{
		pops:  d.one(2, 5, 8, 10, 15),
		ticks: d.one(0, 1, 5, 10),
		gap:   d.one(0, 10, 1000000, 6000000, 15000000, 40000000, 110000000, 1000000000),
		flows: d.one(1, 2, 4, 16),
		low:   d.one(0, 3, 9),
		size:  1,
	}
}

// crowdedManner keeps a queue full and late, so that those are hit that go by an average, or by how long the first one waits.
func crowdedManner(d *dice) manner {
	return manner{pops: d.one(1, 2, 3), ticks: d.one(0, 3, 6), gap: d.one(1000000, 8000000, 20000000), flows: d.one(1, 2, 16), low: 5, size: 1500}
}

func (m manner) gapOf(d *dice) int {
	return min(1000000000, d.one(0, m.gap/2, m.gap, d.below(m.gap+1), d.below(2*m.gap+1)))
}

// packet has a low draw as often as the manner says, of ten.
func (m manner) packet(d *dice) impl.Event {
	e := impl.Event{Flow: d.below(m.flows), Host: d.below(min(m.flows, 4)), Size: max(m.size, d.one(1, 40, 500, 1500, 1514, 2000, 2000, 1+d.below(2000))), Ecn: d.below(4) * d.below(2), Draw: d.below(impl.Full)}
	if d.below(10) < m.low {
		e.Draw = d.one(0, impl.One, 5*impl.One+d.below(3000), d.below(20000), d.below(impl.Full/10))
	}
	return e
}

// script fills a queue first, more or less, and goes on with all kinds of events then.
func (m manner) script(d *dice, length int) (list []impl.Event) {
	for range min(length, d.one(0, 3, 15, 20, 22)) {
		list = append(list, m.packet(d))
	}
	for len(list) < length {
		e := m.packet(d)
		if roll := d.below(10 + m.pops + m.ticks); roll < m.pops {
			e = impl.Event{Kind: impl.EvPop}
		} else if roll < m.pops+m.ticks {
			e = impl.Event{Kind: impl.EvTick}
		}
		e.Gap = m.gapOf(d)
		list = append(list, e)
	}
	return list
}

// tally counts what became of packets in how many scripts of a kind.
type tally struct{ outs, drops, left, marked, full, lost int }

func (y *tally) add(script []impl.Event, x impl.Trace) {
	all, _ := cameBy(script)
	marked := 0
	for _, p := range slices.Concat(x.Outs, x.Left) {
		marked += min(1, p.Ecn-all[p.Id-1].Ecn)
	}
	y.outs += min(1, len(x.Outs))
	y.drops += min(1, len(x.Drops))
	y.left += min(1, len(x.Left))
	y.marked += min(1, marked)
	y.full += len(x.Left) / 20
	if len(x.Drops) > 0 && len(x.Left) < 20 {
		y.lost++
	}
}

// Promises 9 and 14: scripts of all manners, for each kind of queue.
func TestPassagesOfAllKinds(t *testing.T) {
	for _, kind := range allKinds() {
		d := newDice()
		var y tally
		for range 400 {
			for _, m := range []manner{anyManner(d), crowdedManner(d)} {
				script := m.script(d, d.one(120, 119, 60, 20+d.below(101)))
				y.add(script, checkPassage(t, kind, script))
			}
		}
		if y.outs < 300 || y.drops < 50 || y.left < 100 || y.full < 10 || y.lost < 20 {
			t.Error("too few of one kind:", kind, y)
		}
		if knows := kind != impl.QdTail && kind != impl.QdShape; knows != (y.marked > 0) || knows && y.marked < 20 {
			t.Error("too few marks:", kind, y)
		}
	}
}

// Promise 14: every beginning of a script, short ones and those of MaxScript events.
func TestBeginningsOfScripts(t *testing.T) {
	for _, kind := range allKinds() {
		d := newDice()
		for i := range 24 {
			length := 12 + d.below(40)
			if i < 4 {
				length = 120
			}
			checkBeginningsOfScript(t, kind, anyManner(d).script(d, length))
			checkBeginningsOfScript(t, kind, crowdedManner(d).script(d, length))
		}
	}
}

// Promise 14: all scripts of six events out of a packet of either of two flows, a pop and a tick, for each kind.
func TestAllShortScripts(t *testing.T) {
	words := []impl.Event{{Gap: 3000000, Flow: 1, Host: 1, Size: 1400}, {Flow: 2, Host: 2, Size: 1600, Ecn: 1}, popAt(60000000), tickAt(20000000)}
	for _, kind := range allKinds() {
		for number := range 4096 {
			var script []impl.Event
			for place := range 6 {
				script = append(script, words[number>>(2*place)&3])
			}
			checkPassage(t, kind, script)
		}
	}
}

// Promise 14: a tick changes nothing but the time, for all kinds but QdPie.
func TestTicksOfOthers(t *testing.T) {
	for _, kind := range allKinds() {
		if kind == impl.QdPie {
			continue
		}
		d := newDice()
		for range 100 {
			script := append(anyManner(d).script(d, 119), popAt(7))
			var without []impl.Event
			gap := 0
			for _, e := range script {
				gap += e.Gap
				if e.Kind != impl.EvTick {
					for ; gap > 1000000000; gap -= 1000000000 {
						without = append(without, tickAt(1000000000))
					}
					e.Gap, gap = gap, 0
					without = append(without, e)
				}
			}
			if a, b := impl.Run(kind, script), impl.Run(kind, without); !sameTrace(a, b) {
				t.Fatalf("kind %d: with ticks %v, without %v", kind, a, b)
			}
		}
	}
}
