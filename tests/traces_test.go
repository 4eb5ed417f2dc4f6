package tests

import (
	"fmt"
	"math"
	"slices"
	"strings"
	"testing"

	"loop.example/g00453/impl"
)

func ordinaryTrace() impl.Trace {
	return impl.Trace{
		Ok: true,
		Outs: []impl.Pkt{
			{Id: 2, Flow: 3, Host: 1, Size: 700, At: 10, Ecn: 1},
			{Id: 1, Flow: 4, Host: 2, Size: 40, At: 5},
			{Id: 5, Flow: 3, Host: 0, Size: 1500, At: 30, Ecn: 3},
		},
		Drops: []impl.Pkt{{Id: 4, Flow: 3, Size: 99, At: 20}, {Id: 3, Flow: 9, Size: 98, At: 15, Ecn: 2}},
		Left:  []impl.Pkt{{Id: 6, Flow: 3, Size: 1000, At: 40}},
		Times: []int{10, 25, 1000},
		Now:   2000,
	}
}

func clonedTrace(x impl.Trace) impl.Trace {
	x.Outs, x.Drops, x.Left, x.Times = slices.Clone(x.Outs), slices.Clone(x.Drops), slices.Clone(x.Left), slices.Clone(x.Times)
	return x
}

// longTrace has so many of Outs and of Drops.
func longTrace(outs, drops int) impl.Trace {
	x := impl.Trace{Ok: true, Now: 99999}
	for i := range outs {
		x.Outs = append(x.Outs, impl.Pkt{Id: i + 1, Flow: i % 16, Host: i % 4, Size: 1 + 13*i, At: 10 * i, Ecn: i % 4})
		x.Times = append(x.Times, 10*i+i%7)
	}
	for i := range drops {
		x.Drops = append(x.Drops, impl.Pkt{Id: 500 + i, Flow: i % 16, Host: i % 4, Size: 1 + 11*i, At: 9 * i, Ecn: (i + 2) % 4})
	}
	return x
}

// textOf is TraceText of what is as it should be, by another road.
func textOf(x impl.Trace) string {
	var text strings.Builder
	fmt.Fprintln(&text, "trace")
	for i, p := range x.Outs {
		fmt.Fprintln(&text, "out", p.Id, x.Times[i], p.Ecn)
	}
	for _, p := range x.Drops {
		fmt.Fprintln(&text, "drop", p.Id, p.At, p.Ecn)
	}
	return text.String()
}

func flowsAround() []int {
	return []int{0, 1, 3, 4, 7, 9, 15, 16, -1, 17, 1 << 32, math.MaxInt, math.MinInt}
}

func checkTrace(t *testing.T, x impl.Trace, name string) {
	t.Helper()
	if got := string(impl.TraceText(x)); got != textOf(x) {
		t.Errorf("%s: TraceText(%v) = %q, want %q", name, x, got, textOf(x))
	}
	bytes, delays := map[int]int{}, []int{}
	for i, p := range x.Outs {
		bytes[p.Flow] += p.Size
		delays = append(delays, x.Times[i]-p.At)
	}
	for _, flow := range flowsAround() {
		if got := impl.FlowBytes(x, flow); got != bytes[flow] {
			t.Errorf("%s: FlowBytes(%v, %d) = %d, want %d", name, x, flow, got, bytes[flow])
		}
	}
	if got := impl.Delays(x); !slices.Equal(got, delays) {
		t.Errorf("%s: Delays(%v) = %v, want %v", name, x, got, delays)
	}
}

// checkNoTrace asks all three for their fixed answers.
func checkNoTrace(t *testing.T, x impl.Trace, name string) {
	t.Helper()
	if got := impl.TraceText(x); len(got) != 0 {
		t.Errorf("%s: TraceText(%v) = %q", name, x, got)
	}
	for _, flow := range flowsAround() {
		if got := impl.FlowBytes(x, flow); got != 0 {
			t.Errorf("%s: FlowBytes(%v, %d) = %d", name, x, flow, got)
		}
	}
	if got := impl.Delays(x); len(got) != 0 {
		t.Errorf("%s: Delays(%v) = %v", name, x, got)
	}
}

func TestTracesByHand(t *testing.T) {
	x := ordinaryTrace()
	if got := string(impl.TraceText(x)); got != "trace\nout 2 10 1\nout 1 25 0\nout 5 1000 3\ndrop 4 20 0\ndrop 3 15 2\n" {
		t.Errorf("%q", got)
	}
	if got := impl.Delays(x); !slices.Equal(got, []int{0, 20, 970}) {
		t.Error(got)
	}
	for flow, want := range map[int]int{3: 2200, 4: 40, 9: 0, 0: 0, 16: 0, -1: 0} {
		if got := impl.FlowBytes(x, flow); got != want {
			t.Errorf("FlowBytes(.., %d) = %d, want %d", flow, got, want)
		}
	}
	checkTrace(t, x, "ordinary")
	for _, empty := range []impl.Trace{{}, {Ok: true}, {Now: 7}, {Outs: []impl.Pkt{}, Drops: []impl.Pkt{}, Left: []impl.Pkt{}, Times: []int{}}} {
		if got := string(impl.TraceText(empty)); got != "trace\n" {
			t.Errorf("TraceText(%v) = %q", empty, got)
		}
		checkTrace(t, empty, "empty")
	}
	checkTrace(t, impl.Trace{Drops: x.Drops}, "drops alone")
	checkTrace(t, impl.Trace{Outs: x.Outs, Times: x.Times}, "outs alone")
}

// Ok, Left and Now are not asked: whatever they are, the answers are the same.
func TestWhatTracesAreNotAskedFor(t *testing.T) {
	x := ordinaryTrace()
	for _, ok := range []bool{false, true} {
		for _, now := range []int{0, -1, math.MaxInt, math.MinInt} {
			for _, left := range [][]impl.Pkt{nil, {{}}, {{Id: -1, Size: 2001}}, make([]impl.Pkt, 500)} {
				x.Ok, x.Now, x.Left = ok, now, left
				checkTrace(t, x, "not asked for")
			}
		}
	}
}

// Promise 14: as many Times as Outs, one less and one more.
func TestTimesAreAsManyAsOuts(t *testing.T) {
	for _, outs := range []int{0, 1, 2, 60, 119, 120} {
		x := longTrace(outs, 3)
		checkTrace(t, x, "as many")
		x.Times = append(x.Times, impl.MaxTime)
		checkNoTrace(t, x, "one more")
		x.Times = append(x.Times, impl.MaxTime)
		checkNoTrace(t, x, "two more")
		if x.Times = x.Times[:outs]; outs > 0 {
			x.Times = x.Times[:outs-1]
			checkNoTrace(t, x, "one less")
			x.Times = nil
			checkNoTrace(t, x, "none")
		}
	}
}

// Promise 14: MaxScript of Outs and of Drops, and one more.
func TestLengthsOfTraces(t *testing.T) {
	for _, outs := range []int{0, 1, 119, 120, 121, 122, 500} {
		for _, drops := range []int{0, 1, 119, 120, 121, 122, 500} {
			if x := longTrace(outs%121, drops%121); outs <= 120 && drops <= 120 {
				checkTrace(t, x, "long")
			} else {
				for len(x.Outs) < outs {
					x.Outs, x.Times = append(x.Outs, impl.Pkt{Size: 1}), append(x.Times, 0)
				}
				for len(x.Drops) < drops {
					x.Drops = append(x.Drops, impl.Pkt{Size: 1})
				}
				checkNoTrace(t, x, "too long")
			}
		}
	}
}

// Promise 14: a packet of Outs and one of Drops with each field at its ends, one below and one above.
func TestPacketsOfTraces(t *testing.T) {
	for _, f := range packetFields() {
		for place := range 5 {
			set := func(value int) impl.Trace {
				x := clonedTrace(ordinaryTrace())
				list := append(slices.Clone(x.Outs), x.Drops...)
				*f.of(&list[place]) = value
				x.Outs, x.Drops = list[:3:3], list[3:]
				x.Times = []int{impl.MaxTime, impl.MaxTime, impl.MaxTime}
				return x
			}
			for _, value := range []int{f.least, f.most} {
				checkTrace(t, set(value), f.name)
			}
			for _, value := range append(wrongNumbers(f.most), f.least-1, f.most+1) {
				checkNoTrace(t, set(value), f.name)
			}
		}
	}
	for _, place := range []int{0, 59, 119} {
		x := longTrace(120, 120)
		x.Outs[place].Size = 0
		checkNoTrace(t, x, "one of Outs")
		x = longTrace(120, 120)
		x.Drops[place].Size = 0
		checkNoTrace(t, x, "one of Drops")
	}
}

// Promise 14: a time at its At, one below and one above, at MaxTime and one above.
func TestTimesOfTraces(t *testing.T) {
	for place := range 3 {
		for _, at := range []int{0, 1, 500, impl.MaxTime - 1, impl.MaxTime} {
			set := func(time int) impl.Trace {
				x := clonedTrace(ordinaryTrace())
				x.Outs[place].At, x.Times[place] = at, time
				return x
			}
			for _, time := range []int{at, min(at+1, impl.MaxTime), impl.MaxTime - 1, impl.MaxTime} {
				if time >= at {
					checkTrace(t, set(time), "a time")
				}
			}
			for _, time := range append(wrongNumbers(impl.MaxTime), at-1, -at-1, impl.MaxTime+1) {
				checkNoTrace(t, set(time), "a time that is none")
			}
		}
	}
	x := ordinaryTrace()
	x.Times = []int{25, 10, 1000}
	checkTrace(t, x, "times need not grow")
	x.Outs[1] = x.Outs[0]
	checkTrace(t, x, "nor need Ids be apart")
	x.Drops[0].At = impl.MaxTime
	checkTrace(t, x, "nor need drops be in order")
}

// Promise 14: what Run answers is a trace, with delays that are not below 0 and bytes that came.
func TestTracesOfRuns(t *testing.T) {
	for _, kind := range allKinds() {
		d := newDice()
		for range 60 {
			script := anyManner(d).script(d, 120)
			x := impl.Run(kind, script)
			checkTrace(t, x, "of a run")
			all := 0
			for flow := range 16 {
				all += impl.FlowBytes(x, flow)
			}
			sum := 0
			for _, p := range x.Outs {
				sum += p.Size
			}
			if delays := impl.Delays(x); all != sum || len(delays) > 0 && slices.Min(delays) < 0 {
				t.Fatalf("kind %d: %d bytes of %d, %v", kind, all, sum, delays)
			}
		}
	}
	checkTrace(t, impl.Run(impl.QdShape+1, nil), "of no run")
}

// spareTrace has spare room behind all lists, which is filled with what might be taken for theirs.
func spareTrace(x impl.Trace) impl.Trace {
	x = clonedTrace(x)
	for _, list := range []*[]impl.Pkt{&x.Outs, &x.Drops, &x.Left} {
		*list = spare(impl.Fifo{Pkts: *list}).Pkts
	}
	x.Times = roomyNumbers(x.Times)
	return x
}

// The three that ask a trace write nothing into it or behind it, and read nothing there; their answers are new memory.
func TestTracesAreNotWrittenInto(t *testing.T) {
	for _, was := range []impl.Trace{ordinaryTrace(), longTrace(120, 120), longTrace(0, 0), longTrace(121, 1), {Times: []int{1}}} {
		x := spareTrace(was)
		for range 2 {
			text, delays := impl.TraceText(x), impl.Delays(x)
			if string(text) != string(impl.TraceText(was)) || !slices.Equal(delays, impl.Delays(was)) || impl.FlowBytes(x, 1) != impl.FlowBytes(was, 1) {
				t.Errorf("what lies behind a length was read: %q, %v", text, delays)
			}
			clear(text[:cap(text)])
			for i := range delays[:cap(delays)] {
				delays[:cap(delays)][i] = -7
			}
			if !sameTrace(x, was) || !slices.Equal(x.Times[:cap(x.Times)][len(x.Times):][:6], []int{12, 13, 14, 12, 13, 14}) {
				t.Errorf("written into a trace: %v", x)
			}
			for i, list := range [][]impl.Pkt{x.Outs, x.Drops, x.Left} {
				checkSpare(t, impl.Fifo{Pkts: list}, impl.Fifo{Pkts: [][]impl.Pkt{was.Outs, was.Drops, was.Left}[i]}, "a trace")
			}
		}
	}
}
