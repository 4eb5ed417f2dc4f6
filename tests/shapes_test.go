package tests

import (
	"math"
	"slices"
	"testing"

	"loop.example/g00453/impl"
)

// shapeOf has these packets in the lines of their hosts; Turn is the caller's.
func shapeOf(quant int, limit int, turn []int, pkts ...impl.Pkt) impl.Shape {
	s := impl.Shape{Rate: 1000000, Over: 50, Quant: quant, Limit: limit, Lines: make([]impl.Line, 4), Turn: turn}
	for _, p := range pkts {
		line := &s.Lines[p.Host]
		line.Pkts = append(line.Pkts, p)
	}
	return s
}

// ordinaryShape has three hosts in turns, one that is empty, and room for two more packets.
func ordinaryShape() impl.Shape {
	s := shapeOf(1000, 7, []int{2, 0, 3},
		impl.Pkt{Id: 1, Flow: 9, Host: 0, Size: 700, At: 10}, impl.Pkt{Id: 2, Flow: 3, Host: 0, Size: 300, At: 20, Ecn: 1},
		impl.Pkt{Id: 3, Flow: 7, Host: 2, Size: 2000, At: 15},
		impl.Pkt{Id: 4, Flow: 15, Host: 3, Size: 40, At: 5}, impl.Pkt{Id: 5, Flow: 15, Host: 3, Size: 60, At: 5})
	s.Next = 500
	s.Lines[0].Short, s.Lines[1].Short, s.Lines[2].Short, s.Lines[3].Short = 800, 1, 1000, -100
	return s
}

// lined has what a shaper and fair lines have alike, so that it can be held and filled as theirs.
func lined(s impl.Shape) impl.Fair {
	return impl.Fair{Quantum: s.Quant, Limit: s.Limit, Lines: s.Lines, New: s.Turn}
}

func clonedShape(s impl.Shape) impl.Shape {
	f := cloned(lined(s))
	s.Lines, s.Turn = f.Lines, f.New
	return s
}

func sameShape(a, b impl.Shape) bool {
	return a.Rate == b.Rate && a.Over == b.Over && a.Next == b.Next && sameFair(lined(a), lined(b))
}

type shapeField struct {
	name        string
	least, most int
	of          func(s *impl.Shape) *int
}

func shapeFields() []shapeField {
	return []shapeField{
		{"Rate", 1000, 1000000000000, func(s *impl.Shape) *int { return &s.Rate }},
		{"Over", 0, 200, func(s *impl.Shape) *int { return &s.Over }},
		{"Next", 0, 4000000000000, func(s *impl.Shape) *int { return &s.Next }},
		{"Quant", 1, 10000, func(s *impl.Shape) *int { return &s.Quant }},
		{"Limit", 1, 40, func(s *impl.Shape) *int { return &s.Limit }},
	}
}

// shaperOk is ShapeOk by another road: how often each host has a turn is counted.
func shaperOk(s impl.Shape) bool {
	for _, c := range shapeFields() {
		if v := *c.of(&s); v < c.least || v > c.most {
			return false
		}
	}
	if len(s.Lines) != 4 || len(s.Turn) > 4 {
		return false
	}
	times := map[int]int{}
	for _, host := range s.Turn {
		times[host]++
	}
	all, turns := 0, 0
	for host, line := range s.Lines {
		other := func(p impl.Pkt) bool { return p.Host != host }
		if line.Codel != (impl.Codel{}) || line.Short < -2000 || line.Short > 12000 || !queueOk(impl.Fifo{Pkts: line.Pkts, Limit: 40}) || slices.ContainsFunc(line.Pkts, other) {
			return false
		}
		if times[host] != min(1, len(line.Pkts)) {
			return false
		}
		all += len(line.Pkts)
		turns += times[host]
	}
	return all <= s.Limit && turns == len(s.Turn)
}

// sizesAround has those at the edges, one below and one above.
func sizesAround() []int {
	return []int{-1, 0, 1, 2, 950, 1999, 2000, 2001}
}

func checkCost(t *testing.T, s impl.Shape, size int, name string) {
	t.Helper()
	want, well := 0, size >= 1 && size <= 2000
	if well {
		want, _ = duration(size+s.Over, s.Rate)
	}
	if got, ok := impl.Cost(s, size); got != want || ok != well {
		t.Errorf("%s: Cost of %d, with %d, at %d = %d, %v, want %d, %v", name, size, s.Over, s.Rate, got, ok, want, well)
	}
}

func checkShape(t *testing.T, s impl.Shape, name string) {
	t.Helper()
	if !impl.ShapeOk(s) || !shaperOk(s) {
		t.Errorf("%s: it is not ShapeOk: %v", name, s)
	}
	next, has := impl.Ready(s)
	if has != (len(s.Turn) > 0) || has && next != s.Next || !has && next != 0 {
		t.Errorf("%s: Ready answers %d, %v: %v", name, next, has, s)
	}
	for _, size := range sizesAround() {
		checkCost(t, s, size, name)
	}
}

func checkNoShapePush(t *testing.T, s impl.Shape, p impl.Pkt, name string) {
	t.Helper()
	if got, ok := impl.ShapePush(s, p); ok || !sameShape(got, impl.Shape{}) {
		t.Errorf("%s: ShapePush of %v answers %v, %v", name, p, got, ok)
	}
}

func checkNoShapePop(t *testing.T, s impl.Shape, now int, name string) {
	t.Helper()
	if got, p, ok := impl.ShapePop(s, now); ok || p != (impl.Pkt{}) || !sameShape(got, impl.Shape{}) {
		t.Errorf("%s: ShapePop at %d answers %v, %v, %v", name, now, got, p, ok)
	}
}

// checkNoShape asks all that go by ShapeOk for their fixed answers.
func checkNoShape(t *testing.T, s impl.Shape, name string) {
	t.Helper()
	if impl.ShapeOk(s) || shaperOk(s) {
		t.Errorf("%s: it is ShapeOk: %v", name, s)
	}
	for _, p := range []impl.Pkt{{Id: 1000, Host: 3, Size: 1, At: impl.MaxTime}, {Id: 1, Host: 2, Size: 1}, {}} {
		checkNoShapePush(t, s, p, name)
	}
	for _, now := range []int{impl.MaxTime, 500, 0, -1} {
		checkNoShapePop(t, s, now, name)
	}
	for _, size := range sizesAround() {
		if got, ok := impl.Cost(s, size); got != 0 || ok {
			t.Errorf("%s: Cost of %d answers %d, %v", name, size, got, ok)
		}
	}
	if next, ok := impl.Ready(s); next != 0 || ok {
		t.Errorf("%s: Ready answers %d, %v", name, next, ok)
	}
}

type shapeCase struct {
	name   string
	want   bool
	change func(s *impl.Shape)
}

func checkShapes(t *testing.T, list ...shapeCase) {
	t.Helper()
	for _, c := range list {
		s := ordinaryShape()
		c.change(&s)
		if c.want {
			checkShape(t, s, c.name)
		} else {
			checkNoShape(t, s, c.name)
		}
	}
}

func TestShapeConstants(t *testing.T) {
	if impl.Hosts != 4 {
		t.Error(impl.Hosts)
	}
}

func TestOrdinaryShapes(t *testing.T) {
	checkShape(t, ordinaryShape(), "ordinary")
	checkShape(t, shapeOf(1, 1, nil), "empty")
	checkNoShape(t, impl.Shape{}, "zero value")
	checkNoShape(t, impl.Shape{Rate: 1000, Quant: 1, Limit: 1}, "no lines")
	checkShape(t, impl.Shape{Rate: 1000, Quant: 1, Limit: 1, Lines: make([]impl.Line, 4)}, "lines of zeros")
}

// Promise 9: Rate, Over, Next, Quant and Limit at their ends, one below and one above.
func TestShapeFields(t *testing.T) {
	for _, c := range shapeFields() {
		for _, v := range []int{c.least, c.least + 1, (c.least + c.most) / 2, c.most - 1, c.most} {
			s := shapeOf(1000, 7, nil)
			*c.of(&s) = v
			checkShape(t, s, c.name)
			if c.name != "Limit" {
				checkShapes(t, shapeCase{c.name, true, func(s *impl.Shape) { *c.of(s) = v }})
			}
		}
		for _, v := range append(wrongNumbers(c.most), c.least-1) {
			s := shapeOf(1000, 7, nil)
			*c.of(&s) = v
			checkNoShape(t, s, c.name)
			checkShapes(t, shapeCase{c.name, false, func(s *impl.Shape) { *c.of(s) = v }})
		}
	}
	for limit := range 8 {
		checkShapes(t, shapeCase{"Limit beside five", limit >= 5, func(s *impl.Shape) { s.Limit = limit }})
	}
}

// Promise 9: Hosts lines, one fewer and one more.
func TestHostsLines(t *testing.T) {
	for count := range 20 {
		s := impl.Shape{Rate: 1000, Quant: 1, Limit: 1, Lines: make([]impl.Line, count)}
		if count == 4 {
			checkShape(t, s, "Hosts lines")
		} else {
			checkNoShape(t, s, "not Hosts lines")
		}
	}
	checkShapes(t,
		shapeCase{"one more", false, func(s *impl.Shape) { s.Lines = append(s.Lines, impl.Line{}) }},
		shapeCase{"one fewer", false, func(s *impl.Shape) { s.Lines = s.Lines[:3] }},
		shapeCase{"one fewer, and no turn of it", false, func(s *impl.Shape) { s.Lines, s.Turn = s.Lines[:3], s.Turn[:2] }},
		shapeCase{"a first one more", false, func(s *impl.Shape) { s.Lines = append([]impl.Line{{}}, s.Lines...) }},
		shapeCase{"none", false, func(s *impl.Shape) { s.Lines = nil }},
		shapeCase{"very many", false, func(s *impl.Shape) { s.Lines = make([]impl.Line, 100000) }})
}

// Promise 9: just Limit packets in all, and one more, in one line and in several.
func TestAsManyAsLimitOfAllHosts(t *testing.T) {
	for limit := 1; limit <= 40; limit++ {
		for hosts := 1; hosts <= 4; hosts++ {
			s := shapeOf(1000, limit, nil)
			for i := range limit + 1 {
				line := &s.Lines[i%hosts]
				line.Pkts = append(line.Pkts, impl.Pkt{Id: i, Host: i % hosts, Size: 100 + i, At: i})
				if i < hosts {
					s.Turn = append(s.Turn, i)
				}
				if i < limit {
					checkShape(t, s, "at most Limit")
				} else {
					checkNoShape(t, s, "one more than Limit")
				}
			}
		}
	}
	checkShapes(t, shapeCase{"very many", false, func(s *impl.Shape) { s.Lines[2].Pkts = make([]impl.Pkt, 100000) }})
}

// Promise 9: a number of Turn at 0, at Hosts - 1, one below and one above; none twice; just those with packets.
func TestTurnsOfHosts(t *testing.T) {
	for host := range 4 {
		p := impl.Pkt{Id: 1, Host: host, Size: 1}
		checkShape(t, shapeOf(1, 1, []int{host}, p), "its turn")
		checkNoShape(t, shapeOf(1, 1, nil, p), "no turn")
		checkNoShape(t, shapeOf(1, 1, []int{host, host}, p), "twice")
		checkNoShape(t, shapeOf(1, 1, []int{host}), "an empty line")
		for other := range 4 {
			if other != host {
				checkNoShape(t, shapeOf(1, 1, []int{other}, p), "another one's turn")
				checkNoShape(t, shapeOf(1, 1, []int{host, other}, p), "an empty line behind it")
				checkNoShape(t, shapeOf(1, 1, []int{other, host}, p), "an empty line ahead of it")
				q := impl.Pkt{Id: 2, Host: other, Size: 1}
				checkNoShape(t, shapeOf(1, 2, []int{host}, p, q), "one of two")
				checkNoShape(t, shapeOf(1, 2, []int{host, host}, p, q), "one of two, twice")
				checkNoShape(t, shapeOf(1, 2, []int{host, other, host}, p, q), "both, and one twice")
				checkShape(t, shapeOf(1, 2, []int{host, other}, p, q), "both")
			}
		}
		for _, wrong := range append(wrongNumbers(3), 4) {
			checkNoShape(t, shapeOf(1, 1, []int{wrong}), "no number, and empty")
			checkNoShape(t, shapeOf(1, 1, []int{wrong}, p), "no number")
			checkNoShape(t, shapeOf(1, 1, []int{host, wrong}, p), "no number behind it")
			checkNoShape(t, shapeOf(1, 1, []int{wrong, host}, p), "no number ahead of it")
		}
	}
	for _, turn := range [][]int{{0, 2, 3}, {0, 3, 2}, {2, 0, 3}, {2, 3, 0}, {3, 0, 2}, {3, 2, 0}} {
		checkShapes(t, shapeCase{"any order", true, func(s *impl.Shape) { s.Turn = turn }})
	}
	for _, turn := range [][]int{nil, {}, {2, 0}, {0, 3}, {2, 0, 3, 1}, {2, 0, 3, 0}, {2, 0, 3, 2}, {2, 2, 3}, {2, 0, 1}, {2, 0, 4}, {-1, 0, 3}, make([]int, 100000)} {
		checkShapes(t, shapeCase{"no Turn", false, func(s *impl.Shape) { s.Turn = turn }})
	}
}

// Promise 9: Short at -MaxSize and at 10000 + MaxSize, one below and one above, in lines with packets and without.
func TestShortsOfHosts(t *testing.T) {
	for host := range 4 {
		for _, v := range []int{-2000, -1999, -1, 0, 1, 10000, 10001, 11999, 12000} {
			checkShapes(t, shapeCase{"Short", true, func(s *impl.Shape) { s.Lines[host].Short = v }})
		}
		for _, v := range []int{-2001, -2002, 12001, 12002, 1 << 32, 1 << 48, math.MaxInt, math.MinInt} {
			checkShapes(t, shapeCase{"Short", false, func(s *impl.Shape) { s.Lines[host].Short = v }})
		}
	}
}

// Promise 9: a line whose Codel is not zero, in each of its fields, with packets and without.
func TestHostsHaveNoCodels(t *testing.T) {
	list := []impl.Codel{{Dropping: true}, ordinaryCodel(), {Target: 1, Interval: 1}}
	for _, c := range codelFields() {
		for _, v := range []int{1, -1, c.most, math.MaxInt, math.MinInt} {
			var codel impl.Codel
			*c.of(&codel) = v
			list = append(list, codel)
		}
	}
	for host := range 4 {
		for _, codel := range list {
			checkShapes(t, shapeCase{"a Codel", false, func(s *impl.Shape) { s.Lines[host].Codel = codel }})
		}
	}
}

// Promise 9: a line whose packets are not FifoOk, or are of another Host; their Flow plays no part.
func TestLinesAreQueuesOfOneHost(t *testing.T) {
	for _, number := range []int{0, 2, 3} {
		for _, c := range packetFields() {
			for _, v := range []int{c.least - 1, c.most + 1, math.MaxInt, math.MinInt} {
				checkShapes(t,
					shapeCase{c.name + " of a first one", false, func(s *impl.Shape) { *c.of(&s.Lines[number].Pkts[0]) = v }},
					shapeCase{c.name + " of a last one", false, func(s *impl.Shape) { *c.of(&s.Lines[number].Pkts[len(s.Lines[number].Pkts)-1]) = v }})
			}
		}
		for host := range 4 {
			checkShapes(t,
				shapeCase{"Host of a first one", host == number, func(s *impl.Shape) { s.Lines[number].Pkts[0].Host = host }},
				shapeCase{"Host of a last one", host == number, func(s *impl.Shape) { s.Lines[number].Pkts[len(s.Lines[number].Pkts)-1].Host = host }})
		}
		for flow := range 16 {
			checkShapes(t, shapeCase{"Flow", true, func(s *impl.Shape) { s.Lines[number].Pkts[0].Flow = flow }})
		}
	}
	checkShapes(t,
		shapeCase{"an At as that ahead", true, func(s *impl.Shape) { s.Lines[0].Pkts[1].At = 10 }},
		shapeCase{"an At below that ahead", false, func(s *impl.Shape) { s.Lines[0].Pkts[1].At = 9 }},
		shapeCase{"one Id twice in a line", false, func(s *impl.Shape) { s.Lines[3].Pkts[1].Id = 4 }},
		shapeCase{"one Id in two lines", true, func(s *impl.Shape) { s.Lines[3].Pkts[1].Id = 1 }},
		shapeCase{"one packet in two lines", false, func(s *impl.Shape) { s.Lines[1].Pkts, s.Turn = s.Lines[2].Pkts, []int{0, 1, 2, 3} }})
}

// Promise 9: empty lines with these, or the zero value where that is not ShapeOk.
func TestNewShapes(t *testing.T) {
	for _, c := range []struct {
		rate, over, quant, limit int
		want                     bool
	}{
		{125000, 38, 1514, 20, true}, {1000, 0, 1, 1, true}, {1000000000000, 200, 10000, 40, true}, {1000, 200, 1, 40, true}, {1000000000000, 0, 10000, 1, true},
		{999, 38, 1514, 20, false}, {1000000000001, 38, 1514, 20, false}, {0, 38, 1514, 20, false}, {-1000, 38, 1514, 20, false}, {math.MaxInt, 38, 1514, 20, false}, {math.MinInt, 38, 1514, 20, false},
		{125000, -1, 1514, 20, false}, {125000, 201, 1514, 20, false}, {125000, math.MaxInt, 1514, 20, false}, {125000, math.MinInt, 1514, 20, false},
		{125000, 38, 0, 20, false}, {125000, 38, -1, 20, false}, {125000, 38, 10001, 20, false}, {125000, 38, math.MaxInt, 20, false}, {125000, 38, math.MinInt, 20, false},
		{125000, 38, 1514, 0, false}, {125000, 38, 1514, -1, false}, {125000, 38, 1514, 41, false}, {125000, 38, 1514, math.MaxInt, false}, {125000, 38, 1514, math.MinInt, false}, {0, 0, 0, 0, false},
	} {
		want := impl.Shape{}
		if c.want {
			want = impl.Shape{Rate: c.rate, Over: c.over, Quant: c.quant, Limit: c.limit, Lines: make([]impl.Line, 4)}
			checkShape(t, want, "new")
		}
		if got, ok := impl.ShapeNew(c.rate, c.over, c.quant, c.limit); ok != c.want || !sameShape(got, want) {
			t.Errorf("ShapeNew(%d, %d, %d, %d) = %v, %v", c.rate, c.over, c.quant, c.limit, got, ok)
		}
	}
}

// Promise 9: Cost at sizes of 1 and of MaxSize, with an Over of 0 and of 200, at the least and the greatest Rate, where the quotient is whole and where it is cut upwards.
func TestCostsByHand(t *testing.T) {
	for _, c := range []struct{ rate, over, size, want int }{
		{1000, 0, 1, 1000000}, {1000, 200, 1, 201000000}, {1000, 0, 2000, 2000000000}, {1000, 200, 2000, 2200000000},
		{1000000000000, 0, 1, 1}, {1000000000000, 0, 1000, 1}, {1000000000000, 0, 1001, 2}, {1000000000000, 0, 2000, 2}, {1000000000000, 200, 1, 1}, {1000000000000, 200, 800, 1}, {1000000000000, 200, 801, 2}, {1000000000000, 200, 2000, 3},
		{1000000, 50, 950, 1000000}, {125000, 38, 1462, 12000000}, {1000000000, 0, 7, 7}, {1001, 0, 1, 999001}, {3000, 0, 1, 333334}, {3000, 0, 3, 1000000}, {999999999, 0, 1, 2}, {1000000001, 0, 1, 1}, {999999999999, 0, 1000, 2},
	} {
		s, _ := impl.ShapeNew(c.rate, c.over, 1000, 5)
		checkCost(t, s, c.size, "by hand")
		if got, ok := impl.Cost(s, c.size); !ok || got != c.want {
			t.Errorf("Cost of %d, with %d, at %d = %d, %v, want %d", c.size, c.over, c.rate, got, ok, c.want)
		}
	}
}

// Promise 9: Cost of what is no size, of an empty shaper and of one with packets.
func TestCostsOfNoSize(t *testing.T) {
	for _, s := range []impl.Shape{ordinaryShape(), shapeOf(1000, 7, nil)} {
		for _, size := range append(wrongNumbers(2000), 0) {
			if got, ok := impl.Cost(s, size); got != 0 || ok {
				t.Errorf("Cost of %d answers %d, %v", size, got, ok)
			}
		}
	}
}

// Promise 9: each size at many rates; what waits plays no part.
func TestCostsOfAllSizes(t *testing.T) {
	d := newDice()
	for _, rate := range []int{1000, 1001, 3000, 125000, 999999937, 1000000000, 999999999999, 1000000000000, 1000 + d.below(1<<30)} {
		for _, over := range []int{0, 1, 38, 200} {
			s := ordinaryShape()
			s.Rate, s.Over = rate, over
			for size := 1; size <= 2000; size++ {
				checkCost(t, s, size, "with packets")
			}
			checkShape(t, s, "rates")
		}
	}
}

// Promise 9: Ready with Turn empty and not empty, whatever Next is.
func TestReadyByHand(t *testing.T) {
	for _, next := range []int{0, 1, 500, impl.MaxTime, impl.MaxTime + 1, 4*impl.MaxTime - 1, 4 * impl.MaxTime} {
		s := ordinaryShape()
		s.Next = next
		if got, ok := impl.Ready(s); !ok || got != next {
			t.Errorf("Ready = %d, %v, want %d", got, ok, next)
		}
		s = shapeOf(1000, 7, nil)
		s.Next = next
		if got, ok := impl.Ready(s); ok || got != 0 {
			t.Errorf("Ready without a turn = %d, %v", got, ok)
		}
	}
}
