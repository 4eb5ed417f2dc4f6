package tests

import (
	"slices"
	"testing"

	"loop.example/g00453/impl"
)

// comes is a packet that comes with no time between, is hit by no chance but a full one, and knows no marks.
func comes(flow, host, size int) impl.Event {
	return impl.Event{Flow: flow, Host: host, Size: size, Draw: impl.Full - 1}
}

func times(count int, list ...impl.Event) []impl.Event { return slices.Repeat(list, count) }

func scriptOf(parts ...[]impl.Event) []impl.Event { return slices.Concat(parts...) }

func idsOf(pkts []impl.Pkt) (ids []int) {
	for _, p := range pkts {
		ids = append(ids, p.Id)
	}
	return ids
}

// numbers has all from first to last.
func numbers(first, last int) (list []int) {
	for n := first; n <= last; n++ {
		list = append(list, n)
	}
	return list
}

// runCase tells by hand the Ids of who goes out, when, of who is dropped and of who is left.
type runCase struct {
	name   string
	kinds  []int
	script []impl.Event
	outs   []int
	times  []int
	drops  []int
	left   []int
	now    int
}

func checkRuns(t *testing.T, list []runCase) {
	t.Helper()
	for _, c := range list {
		for _, kind := range c.kinds {
			x := impl.Run(kind, c.script)
			if !x.Ok || !slices.Equal(idsOf(x.Outs), c.outs) || !slices.Equal(x.Times, c.times) || !slices.Equal(idsOf(x.Drops), c.drops) || !slices.Equal(idsOf(x.Left), c.left) || x.Now != c.now {
				t.Errorf("%s, kind %d: out %v at %v, dropped %v, left %v, now %d, want %v at %v, %v, %v, %d", c.name, kind, idsOf(x.Outs), x.Times, idsOf(x.Drops), idsOf(x.Left), x.Now, c.outs, c.times, c.drops, c.left, c.now)
			}
			checkFates(t, kind, c.script, x)
			if want := reckoned(kind, c.script); !sameTrace(x, want) {
				t.Errorf("%s, kind %d: %v, want %v", c.name, kind, x, want)
			}
		}
	}
}

func oneLine() []int { return []int{impl.QdTail, impl.QdRed, impl.QdCodel, impl.QdPie} }

// Promise 14: a packet is what the event tells, with its Id from 1 on and the time as its At.
func TestWhatComes(t *testing.T) {
	script := []impl.Event{
		{Gap: 5, Flow: 3, Host: 1, Size: 700, Ecn: 2, Draw: 9},
		{Gap: 7, Flow: 3, Host: 1, Size: 1, Ecn: 0},
		popAt(100), {Flow: 3, Host: 1, Size: 2000, Ecn: 3, Draw: impl.Full - 1}, tickAt(1000),
	}
	want := impl.Trace{
		Ok:    true,
		Outs:  []impl.Pkt{{Id: 1, Flow: 3, Host: 1, Size: 700, At: 5, Ecn: 2}},
		Left:  []impl.Pkt{{Id: 2, Flow: 3, Host: 1, Size: 1, At: 12}, {Id: 3, Flow: 3, Host: 1, Size: 2000, At: 112, Ecn: 3}},
		Times: []int{112},
		Now:   1112,
	}
	for _, kind := range allKinds() {
		if x := impl.Run(kind, script); !sameTrace(x, want) {
			t.Errorf("Run(%d, %v) = %v, want %v", kind, script, x, want)
		}
	}
}

// Promise 14: in order in and out, with the line empty ahead of it, in between and behind; an EvPop of an empty queue lets nobody out.
func TestPlainRuns(t *testing.T) {
	one := comes(4, 2, 100)
	checkRuns(t, []runCase{
		{"nothing", allKinds(), nil, nil, nil, nil, nil, 0},
		{"a pop of nothing", allKinds(), []impl.Event{popAt(3)}, nil, nil, nil, nil, 3},
		{"pops of nothing", allKinds(), times(120, popAt(3)), nil, nil, nil, nil, 360},
		{"ticks of nothing", allKinds(), times(120, tickAt(3)), nil, nil, nil, nil, 360},
		{"one stays", allKinds(), []impl.Event{one}, nil, nil, nil, []int{1}, 0},
		{"one goes at once", allKinds(), []impl.Event{one, popAt(0)}, []int{1}, []int{0}, nil, nil, 0},
		{"one goes later", allKinds(), []impl.Event{one, popAt(70)}, []int{1}, []int{70}, nil, nil, 70},
		{"a pop ahead of it", allKinds(), []impl.Event{popAt(20), one, popAt(70)}, []int{1}, []int{90}, nil, nil, 90},
		{"a pop behind it", allKinds(), []impl.Event{one, popAt(70), popAt(1000000000)}, []int{1}, []int{70}, nil, nil, 1000000070},
		{"one behind the other", allKinds(), []impl.Event{one, popAt(0), one, popAt(200000000), one, popAt(200000000)}, []int{1, 2, 3}, []int{0, 200000000, 400000000}, nil, nil, 400000000},
		{"in order", allKinds(), scriptOf(times(3, one), times(2, popAt(2000000))), []int{1, 2}, []int{2000000, 4000000}, nil, []int{3}, 4000000},
		{"Now behind a pop", allKinds(), []impl.Event{one, popAt(4), tickAt(30)}, []int{1}, []int{4}, nil, nil, 34},
		{"Now behind a packet", allKinds(), []impl.Event{one, popAt(500), one, {Gap: 1000000000, Flow: 4, Host: 2, Size: 9}}, []int{1}, []int{500}, nil, []int{2, 3}, 1000000500},
	})
}

// Promise 14: a line that a packet finds with 18, with 19, with 20, and room again behind a pop; Ids count those that are dropped, too.
func TestFullLines(t *testing.T) {
	one := comes(1, 1, 50)
	kinds := append(oneLine(), impl.QdShape)
	checkRuns(t, []runCase{
		{"18", allKinds(), times(19, one), nil, nil, nil, numbers(1, 19), 0},
		{"19", allKinds(), times(20, one), nil, nil, nil, numbers(1, 20), 0},
		{"20", kinds, times(21, one), nil, nil, []int{21}, numbers(1, 20), 0},
		{"20 again", kinds, times(25, one), nil, nil, numbers(21, 25), numbers(1, 20), 0},
		{"120", kinds, times(120, one), nil, nil, numbers(21, 120), numbers(1, 20), 0},
		{"room behind a pop", kinds, scriptOf(times(22, one), []impl.Event{popAt(6), one, one}), []int{1}, []int{6}, []int{21, 22, 24}, append(numbers(2, 20), 23), 6},
		{"full ahead of a pop", kinds, scriptOf(times(20, one), []impl.Event{popAt(6)}, times(1, one)), []int{1}, []int{6}, nil, numbers(2, 21), 6},
		{"fair, 20", []int{impl.QdFair}, times(21, one), nil, nil, []int{1}, numbers(2, 21), 0},
		{"fair, 20 again", []int{impl.QdFair}, times(25, one), nil, nil, numbers(1, 5), numbers(6, 25), 0},
		{"fair, 120", []int{impl.QdFair}, times(120, one), nil, nil, numbers(1, 100), numbers(101, 120), 0},
		{"fair, room behind a pop", []int{impl.QdFair}, scriptOf(times(22, one), []impl.Event{popAt(6), one, one}), []int{3}, []int{6}, []int{1, 2, 4}, numbers(5, 24), 6},
	})
}

// Promise 14: who goes out of one line goes in the order in which all came, whatever flow or host it is of.
func TestOneLineForAll(t *testing.T) {
	var script []impl.Event
	for i := range 16 {
		script = append(script, comes(15-i, i%4, 90))
	}
	checkRuns(t, []runCase{
		{"all stay", oneLine(), script, nil, nil, nil, numbers(1, 16), 0},
		{"some go", oneLine(), scriptOf(script, times(5, popAt(10))), numbers(1, 5), []int{10, 20, 30, 40, 50}, nil, numbers(6, 16), 50},
	})
}

// Promise 14: fair lines: new ones ahead of old ones, a line that has had its bytes waits; the fattest one's first is dropped; lines are left in order of flows.
func TestFairRuns(t *testing.T) {
	fair := []int{impl.QdFair}
	a, b, c := comes(9, 0, 1500), comes(3, 1, 1500), comes(12, 2, 100)
	small := comes(0, 3, 40)
	checkRuns(t, []runCase{
		{"in order of flows", fair, []impl.Event{a, b, a, c, b, small}, nil, nil, nil, []int{6, 2, 5, 1, 3, 4}, 0},
		{"1500 leaves 14: one more", fair, []impl.Event{a, a, a, b, popAt(1), popAt(1), popAt(1)}, []int{1, 2, 4}, []int{1, 2, 3}, nil, []int{3}, 3},
		{"all go", fair, scriptOf([]impl.Event{a, a, a, b}, times(5, popAt(1))), []int{1, 2, 4, 3}, []int{1, 2, 3, 4}, nil, nil, 5},
		{"1514 leaves 0: the next one's turn", fair, scriptOf(times(2, comes(5, 0, 1514)), times(2, comes(2, 0, 1514)), times(4, popAt(1))), []int{1, 3, 2, 4}, []int{1, 2, 3, 4}, nil, nil, 4},
		{"1513 leaves 1: its own turn", fair, scriptOf(times(2, comes(5, 0, 1513)), times(2, comes(2, 0, 1513)), times(4, popAt(1))), []int{1, 2, 3, 4}, []int{1, 2, 3, 4}, nil, nil, 4},
		{"a new one ahead of an old one", fair, scriptOf(times(3, comes(5, 0, 2000)), times(2, comes(6, 0, 2000)), []impl.Event{popAt(1), popAt(1), small, popAt(1), popAt(1)}), []int{1, 4, 6, 2}, []int{1, 2, 3, 4}, nil, []int{3, 5}, 4},
		{"the fattest loses its first", fair, scriptOf(times(2, comes(8, 0, 2000)), times(18, comes(7, 0, 100)), []impl.Event{small, small}), nil, nil, []int{1, 2}, append([]int{21, 22}, numbers(3, 20)...), 0},
		{"of two alike the first", fair, scriptOf(times(10, comes(8, 0, 100)), times(10, comes(7, 0, 100)), []impl.Event{small, small, small}), nil, nil, []int{11, 1, 12}, slices.Concat([]int{21, 22, 23}, numbers(13, 20), numbers(2, 10)), 0},
		{"who comes is the fattest", fair, scriptOf(times(20, comes(7, 0, 50)), []impl.Event{comes(2, 0, 2000)}), nil, nil, []int{21}, numbers(1, 20), 0},
	})
}

// Promise 14: late ones of fair lines are dropped, or marked, at a pop; those that were dropped at pushes come ahead of them.
func TestLateFairRuns(t *testing.T) {
	script := scriptOf(times(21, comes(7, 0, 1000)), []impl.Event{popAt(5000000), popAt(100000000), popAt(0)})
	checkRuns(t, []runCase{
		{"dropped", []int{impl.QdFair}, script, []int{2, 4, 5}, []int{5000000, 105000000, 105000000}, []int{1, 3}, numbers(6, 21), 105000000},
	})
	for i := range script[:21] {
		script[i].Ecn = impl.EcZero
	}
	x := impl.Run(impl.QdFair, script)
	if !slices.Equal(idsOf(x.Outs), []int{2, 3, 4}) || !slices.Equal(idsOf(x.Drops), []int{1}) || x.Outs[0].Ecn != 2 || x.Outs[1].Ecn != 3 || x.Outs[2].Ecn != 2 {
		t.Error("marked:", x)
	}
}

// Promise 9: 1500 bytes, wrapped in 38, take 12304000 with 125000 a second: nobody goes out ahead of that, whatever was asked in between.
func TestShapedRuns(t *testing.T) {
	shape := []int{impl.QdShape}
	a, b := comes(9, 2, 1500), comes(3, 1, 1500)
	checkRuns(t, []runCase{
		{"in order of hosts", shape, []impl.Event{a, b, a, comes(0, 3, 1), b, comes(15, 0, 1)}, nil, nil, nil, []int{6, 2, 5, 1, 3, 4}, 0},
		{"at once", shape, []impl.Event{a, a, popAt(0), popAt(0)}, []int{1}, []int{0}, nil, []int{2}, 0},
		{"one too early", shape, []impl.Event{a, a, popAt(0), popAt(12303999)}, []int{1}, []int{0}, nil, []int{2}, 12303999},
		{"on time", shape, []impl.Event{a, a, popAt(0), popAt(12304000)}, []int{1, 2}, []int{0, 12304000}, nil, nil, 12304000},
		{"too early, then on time", shape, []impl.Event{a, a, popAt(7), popAt(12303999), popAt(1)}, []int{1, 2}, []int{7, 12304007}, nil, nil, 12304007},
		{"who comes later waits, too", shape, []impl.Event{a, popAt(0), a, popAt(12303999), popAt(1)}, []int{1, 2}, []int{0, 12304000}, nil, nil, 12304000},
		{"one byte takes 312000", shape, []impl.Event{comes(0, 0, 1), a, popAt(0), popAt(311999), popAt(1)}, []int{1, 2}, []int{0, 312000}, nil, nil, 312000},
		{"2000 bytes take 16304000", shape, []impl.Event{comes(0, 0, 2000), a, popAt(0), popAt(16303999), popAt(1)}, []int{1, 2}, []int{0, 16304000}, nil, nil, 16304000},
		{"hosts in turns", shape, scriptOf(times(3, comes(1, 2, 1514)), times(2, comes(1, 0, 1514)), times(5, popAt(20000000))), []int{1, 4, 2, 5, 3}, []int{20000000, 40000000, 60000000, 80000000, 100000000}, nil, nil, 100000000},
		{"ticks do not help", shape, []impl.Event{a, a, popAt(0), tickAt(12303999), popAt(0), tickAt(1), popAt(0)}, []int{1, 2}, []int{0, 12304000}, nil, nil, 12304000},
	})
}

// Promise 14: a host that finds no room in a shaper is dropped, be nobody of it there; there is room again behind a pop.
func TestHostsWithoutRoom(t *testing.T) {
	shape := []int{impl.QdShape}
	full := times(20, comes(1, 2, 100))
	other := comes(1, 3, 100)
	checkRuns(t, []runCase{
		{"another host's", shape, scriptOf(full, []impl.Event{other}), nil, nil, []int{21}, numbers(1, 20), 0},
		{"room behind a pop", shape, scriptOf(full, []impl.Event{other, popAt(0), other, other}), []int{1}, []int{0}, []int{21, 23}, append(numbers(2, 20), 22), 0},
		{"no room behind a pop that was too early", shape, scriptOf(full, []impl.Event{popAt(0), other, popAt(1), other}), []int{1}, []int{0}, []int{22}, append(numbers(2, 20), 21), 1},
		{"of all hosts", shape, scriptOf(times(5, comes(0, 0, 1), comes(0, 1, 1), comes(0, 2, 1), comes(0, 3, 1)), []impl.Event{comes(0, 0, 1), comes(0, 1, 1)}), nil, nil, []int{21, 22}, []int{1, 5, 9, 13, 17, 2, 6, 10, 14, 18, 3, 7, 11, 15, 19, 4, 8, 12, 16, 20}, 0},
	})
}
