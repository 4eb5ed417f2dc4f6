package tests

import (
	"math"
	"slices"
	"testing"

	"loop.example/g00453/impl"
)

func allKinds() []int {
	return []int{impl.QdTail, impl.QdRed, impl.QdCodel, impl.QdPie, impl.QdFair, impl.QdShape}
}

func ordinaryEvent() impl.Event {
	return impl.Event{Kind: impl.EvCome, Gap: 1000, Flow: 7, Host: 2, Size: 1500, Ecn: impl.EcOne, Draw: 123456}
}

func popAt(gap int) impl.Event { return impl.Event{Kind: impl.EvPop, Gap: gap} }

func tickAt(gap int) impl.Event { return impl.Event{Kind: impl.EvTick, Gap: gap} }

// eventField has the ends of a field of EvCome.
type eventField struct {
	name        string
	least, most int
	of          func(e *impl.Event) *int
}

func eventFields() []eventField {
	return []eventField{
		{"Gap", 0, 1000000000, func(e *impl.Event) *int { return &e.Gap }},
		{"Flow", 0, 15, func(e *impl.Event) *int { return &e.Flow }},
		{"Host", 0, 3, func(e *impl.Event) *int { return &e.Host }},
		{"Size", 1, 2000, func(e *impl.Event) *int { return &e.Size }},
		{"Ecn", 0, 3, func(e *impl.Event) *int { return &e.Ecn }},
		{"Draw", 0, 2147483647, func(e *impl.Event) *int { return &e.Draw }},
	}
}

func sameTrace(a, b impl.Trace) bool {
	return a.Ok == b.Ok && a.Now == b.Now && slices.Equal(a.Outs, b.Outs) && slices.Equal(a.Drops, b.Drops) && slices.Equal(a.Left, b.Left) && slices.Equal(a.Times, b.Times)
}

func isZeroTrace(x impl.Trace) bool { return sameTrace(x, impl.Trace{}) }

// checkEvent asks EventOk, and Run of every kind with it at the beginning, in the middle and at the end.
func checkEvent(t *testing.T, e impl.Event, want bool, name string) {
	t.Helper()
	if got := impl.EventOk(e); got != want {
		t.Errorf("%s: EventOk(%v) = %v", name, e, got)
	}
	for _, kind := range allKinds() {
		for place := range 5 {
			script := []impl.Event{ordinaryEvent(), popAt(5), tickAt(0), ordinaryEvent()}
			script = slices.Insert(script, place, e)
			x := impl.Run(kind, script)
			if x.Ok != want || !want && !isZeroTrace(x) {
				t.Errorf("%s: Run(%d, %v) = %v", name, kind, script, x)
			}
		}
	}
}

func TestScriptConstants(t *testing.T) {
	got := []int{impl.MaxScript, impl.QdTail, impl.QdRed, impl.QdCodel, impl.QdPie, impl.QdFair, impl.QdShape, impl.EvCome, impl.EvPop, impl.EvTick}
	if !slices.Equal(got, []int{120, 0, 1, 2, 3, 4, 5, 0, 1, 2}) {
		t.Error(got)
	}
}

// Promise 14: Gap, Flow, Host, Size, Ecn and Draw at their ends, each one below and one above.
func TestFieldsOfComing(t *testing.T) {
	checkEvent(t, ordinaryEvent(), true, "ordinary")
	checkEvent(t, impl.Event{Size: 1}, true, "all at the least")
	checkEvent(t, impl.Event{Gap: 1000000000, Flow: 15, Host: 3, Size: 2000, Ecn: 3, Draw: impl.Full - 1}, true, "all at the most")
	checkEvent(t, impl.Event{}, false, "the zero value")
	for _, f := range eventFields() {
		for _, value := range []int{f.least, f.least + 1, f.most - 1, f.most} {
			e := ordinaryEvent()
			*f.of(&e) = value
			checkEvent(t, e, true, f.name)
		}
		for _, value := range append(wrongNumbers(f.most), f.least-1, f.most+1) {
			e := ordinaryEvent()
			*f.of(&e) = value
			checkEvent(t, e, false, f.name)
		}
	}
}

// Promise 14: EvPop and EvTick with Gap at its ends, and with each other field at 0, at 1, and at what EvCome lets.
func TestFieldsOfPopsAndTicks(t *testing.T) {
	for _, kind := range []int{impl.EvPop, impl.EvTick} {
		for _, gap := range []int{0, 1, 999999999, 1000000000} {
			checkEvent(t, impl.Event{Kind: kind, Gap: gap}, true, "Gap")
		}
		for _, gap := range append(wrongNumbers(1000000000), -1, 1000000001) {
			checkEvent(t, impl.Event{Kind: kind, Gap: gap}, false, "Gap")
		}
		for _, f := range eventFields()[1:] {
			for _, gap := range []int{0, 77} {
				e := impl.Event{Kind: kind, Gap: gap}
				checkEvent(t, e, true, f.name+" at 0")
				for _, value := range []int{1, 2, f.most, -1, math.MinInt, math.MaxInt, 1 << 32} {
					*f.of(&e) = value
					checkEvent(t, e, false, f.name)
				}
			}
		}
		e := ordinaryEvent()
		e.Kind = kind
		checkEvent(t, e, false, "all that a packet has")
	}
}

// Promise 14: a Kind one below EvCome and one above EvTick, whatever else there is.
func TestKindsOfEvents(t *testing.T) {
	for _, kind := range append(wrongNumbers(impl.EvTick), -1, 3, 4, 5) {
		for _, e := range []impl.Event{{}, {Gap: 1}, {Size: 1}, ordinaryEvent()} {
			e.Kind = kind
			checkEvent(t, e, false, "a Kind that is none")
		}
	}
	for kind := impl.EvCome; kind <= impl.EvTick; kind++ {
		checkEvent(t, impl.Event{Kind: kind}, kind != impl.EvCome, "without more")
		checkEvent(t, impl.Event{Kind: kind, Size: 1}, kind == impl.EvCome, "with a Size")
	}
}

// Promise 14: kinds one below QdTail, at each of the six and one above QdShape.
func TestKindsOfQueues(t *testing.T) {
	well := []impl.Event{ordinaryEvent(), popAt(1)}
	ill := []impl.Event{ordinaryEvent(), {}}
	for _, kind := range allKinds() {
		if x := impl.Run(kind, well); !x.Ok || len(x.Outs) != 1 {
			t.Errorf("Run(%d, ..) = %v", kind, x)
		}
		if x := impl.Run(kind, ill); !isZeroTrace(x) {
			t.Errorf("Run(%d, %v) = %v", kind, ill, x)
		}
	}
	for _, kind := range append(wrongNumbers(impl.QdShape), -1, 6, 7) {
		for _, script := range [][]impl.Event{nil, {}, well, ill, slices.Repeat(well, 61)} {
			if x := impl.Run(kind, script); !isZeroTrace(x) {
				t.Errorf("Run(%d, %v) = %v", kind, script, x)
			}
		}
	}
}

// Promise 14: a script without an event, with MaxScript events and with one more.
func TestLengthsOfScripts(t *testing.T) {
	for _, kind := range allKinds() {
		for _, empty := range [][]impl.Event{nil, {}, make([]impl.Event, 0, 9)} {
			if x := impl.Run(kind, empty); !sameTrace(x, impl.Trace{Ok: true}) {
				t.Errorf("Run(%d, nothing) = %v", kind, x)
			}
		}
		for _, e := range []impl.Event{ordinaryEvent(), popAt(1000), tickAt(1000)} {
			for _, length := range []int{1, 2, 60, 119, 120} {
				x := impl.Run(kind, slices.Repeat([]impl.Event{e}, length))
				if !x.Ok || x.Now != 1000*length {
					t.Errorf("Run(%d, %d times %v) = %v", kind, length, e, x)
				}
			}
			for _, length := range []int{121, 122, 240, 5000} {
				if x := impl.Run(kind, slices.Repeat([]impl.Event{e}, length)); !isZeroTrace(x) {
					t.Errorf("Run(%d, %d times %v) = %v", kind, length, e, x)
				}
			}
		}
	}
}

// Promise 14: in a script of MaxScript events one that is none, at every place.
func TestEventsThatAreNone(t *testing.T) {
	wrong := []impl.Event{{}, {Size: 2001}, {Kind: -1}, {Kind: 3}, {Kind: impl.EvPop, Size: 1}, {Kind: impl.EvTick, Gap: -1}}
	for _, kind := range allKinds() {
		script := slices.Repeat([]impl.Event{ordinaryEvent(), popAt(9), tickAt(9)}, 40)
		for place, was := range script {
			script[place] = wrong[(place+kind)%len(wrong)]
			if x := impl.Run(kind, script); !isZeroTrace(x) {
				t.Errorf("Run(%d, ..) with %v at %d = %v", kind, script[place], place, x)
			}
			script[place] = was
		}
		if x := impl.Run(kind, script); !x.Ok {
			t.Errorf("Run(%d, ..) = %v", kind, x)
		}
	}
}

// The longest script in time: all is well up to its end.
func TestLongestGaps(t *testing.T) {
	for _, kind := range allKinds() {
		e := ordinaryEvent()
		e.Gap = 1000000000
		script := append(slices.Repeat([]impl.Event{e}, 20), slices.Repeat([]impl.Event{popAt(1000000000)}, 100)...)
		x := impl.Run(kind, script)
		if !x.Ok || x.Now != 120000000000 || len(x.Outs)+len(x.Drops) != 20 || len(x.Left) != 0 {
			t.Errorf("Run(%d, ..) = %v", kind, x)
		}
	}
}
