package tests

import (
	"slices"
	"testing"

	"loop.example/g00453/impl"
)

// eager pops again and again, the gaps being small, so that nobody goes out later than it may by more than that.
func eager(d *dice, gap int) (list []impl.Event) {
	for range 12 {
		list = append(list, comes(d.below(16), d.below(4), d.one(1, 40, 700, 1462, 2000, 1+d.below(2000))))
	}
	for len(list) < 120 {
		if d.below(5) == 0 {
			list = append(list, comes(d.below(16), d.below(4), d.one(1, 40, 700, 1462, 2000, 1+d.below(2000))))
		}
		list = append(list, popAt(d.one(gap, d.below(gap+1))))
	}
	return list[:120]
}

// Promise 9: in whatever time no more bytes, with what they are wrapped in, than there is time for, and one packet; with pops that are far too many and with some that are too few.
func TestNoMoreThanThereIsTimeFor(t *testing.T) {
	d := newDice()
	tight, outs := 0, 0
	for _, gap := range []int{0, 1, 8000, 100000, 1000000, 4000000, 12304000, 12304001, 16304000, 50000000} {
		for range 40 {
			x := checkPassage(t, impl.QdShape, eager(d, gap))
			checkWrapped(t, x, "eager")
			for i, p := range x.Outs {
				outs++
				if i > 0 && x.Times[i]-x.Times[i-1] < (x.Outs[i-1].Size+38)*8000+gap {
					tight++
				}
				if i > 0 && x.Times[i] < x.Times[i-1]+(x.Outs[i-1].Size+38)*8000 {
					t.Fatalf("%v goes out at %d, behind %v at %d", p, x.Times[i], x.Outs[i-1], x.Times[i-1])
				}
			}
		}
	}
	if outs < 3000 || tight < 1000 {
		t.Error("too few go out:", outs, tight)
	}
}

// Promise 9: with pops just when there is time all time is used, so that the bound is met: 125000 bytes a second, a byte in 8000.
func TestAllTimeIsUsed(t *testing.T) {
	var script []impl.Event
	var want []int
	now, gap := 0, 0
	for i := range 60 {
		size := 1 + (i*577)%2000
		script = append(script, comes(i%16, i%4, size), popAt(gap))
		now += gap
		want = append(want, now)
		gap = (size + 38) * 8000
	}
	x := checkPassage(t, impl.QdShape, script)
	if !slices.Equal(x.Times, want) || len(x.Left) != 0 || len(x.Drops) != 0 {
		t.Fatal(x, want)
	}
	for i := range script[3:] {
		if e := &script[3+i]; e.Kind == impl.EvPop {
			e.Gap--
			if x := checkPassage(t, impl.QdShape, script[:4+i]); len(x.Outs) != (4+i)/2-1 {
				t.Fatalf("one went out too early: %v", x)
			}
			e.Gap++
		}
	}
}

// Promise 9: other kinds are held back by nothing, so the bound is the shaper's own.
func TestOthersAreNotHeldBack(t *testing.T) {
	script := scriptOf(times(10, comes(1, 1, 2000)), times(10, popAt(0)))
	for _, kind := range allKinds() {
		want := 10
		if kind == impl.QdShape {
			want = 1
		}
		if x := checkPassage(t, kind, script); len(x.Outs) != want {
			t.Errorf("kind %d lets out %v", kind, x.Outs)
		}
	}
}

// roomyScript has spare room behind it, which is filled with events that would do.
func roomyScript(script []impl.Event) []impl.Event {
	return append(slices.Clone(script), times(9, popAt(1))...)[:len(script)]
}

// checkOwn fills each list of an answer, with all the room behind it, with a number of its own; each must have its own then.
func checkOwn(t *testing.T, x impl.Trace) {
	t.Helper()
	lists := [][]impl.Pkt{x.Outs[:cap(x.Outs)], x.Drops[:cap(x.Drops)], x.Left[:cap(x.Left)]}
	for i, list := range lists {
		for k := range list {
			list[k].Id = -1 - i
		}
	}
	for i, list := range lists {
		if slices.ContainsFunc(list, func(p impl.Pkt) bool { return p.Id != -1-i }) {
			t.Error("two lists of packets share memory")
		}
	}
	clear(x.Times[:cap(x.Times)])
}

// What Run answers shares nothing with its script, nor its lists with each other; nothing is written into the script or behind it, nor read there.
func TestRunsAreNewMemory(t *testing.T) {
	for _, kind := range allKinds() {
		d := newDice()
		for range 60 {
			was := crowdedManner(d).script(d, d.one(120, 60, 20))
			want := reckoned(kind, was)
			script := roomyScript(was)
			for range 2 {
				x := impl.Run(kind, script)
				if !sameTrace(x, want) {
					t.Fatalf("Run(%d, ..) = %v, want %v", kind, x, want)
				}
				checkOwn(t, x)
				if room := script[:cap(script)][len(script):]; !slices.Equal(script, was) || !slices.Equal(room[:9], times(9, popAt(1))) {
					t.Fatalf("kind %d: written into the script: %v", kind, script)
				}
			}
		}
	}
}

// No function keeps anything: answers are the same whatever was asked ahead.
func TestRunsKeepNothing(t *testing.T) {
	d := newDice()
	var scripts [][]impl.Event
	var first []impl.Trace
	for i := range 120 {
		m := crowdedManner(d)
		scripts = append(scripts, m.script(d, 120))
		first = append(first, impl.Run(i%6, scripts[i]))
	}
	for i := len(scripts) - 1; i >= 0; i-- {
		impl.Run((i+1)%6, scripts[i/2])
		impl.Run(i%6, scripts[(i+7)%120])
		impl.Run(-1, scripts[i])
		impl.TraceText(first[i/2])
		if x := impl.Run(i%6, scripts[i]); !sameTrace(x, first[i]) {
			t.Fatalf("Run(%d, ..) was %v, is %v", i%6, first[i], x)
		}
	}
}
