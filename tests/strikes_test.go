package tests

import (
	"slices"
	"testing"

	"loop.example/g00453/impl"
)

// checkStruck runs a script whose last packet is hit, or is not: plain of EcNot, knows of each other Ecn. 0: it is let in, 1: it is marked, 2: it is dropped.
func checkStruck(t *testing.T, kind int, script []impl.Event, plain, knows int, name string) {
	t.Helper()
	for ecn, want := range []int{plain, knows, knows, knows} {
		script = slices.Clone(script)
		last := &script[len(script)-1]
		last.Ecn = ecn
		x := checkPassage(t, kind, script)
		all, _ := cameBy(script)
		p := all[len(all)-1]
		if want == 1 {
			p.Ecn = impl.EcCe
		}
		list, other := x.Left, x.Drops
		if want == 2 {
			list, other = x.Drops, x.Left
		}
		if len(list) == 0 || list[len(list)-1] != p || slices.Contains(idsOf(other), p.Id) {
			t.Errorf("%s, kind %d, Ecn %d: want %d; left %v, dropped %v", name, kind, ecn, want, x.Left, x.Drops)
		}
	}
}

// heavy has RED's average high: a full line of 20 with 2000 bytes each, that many more who find it so, and a pop.
func heavy(more int) []impl.Event {
	return scriptOf(times(20+more, comes(1, 1, 2000)), []impl.Event{popAt(0)})
}

// heavyChance is the chance of whoever comes behind heavy, by another road.
func heavyChance(more int) int {
	r := impl.Red{MinT: 3000, MaxT: 9000, MaxP: 6553}
	for i := range 20 + more {
		r, _ = redArrival(r, min(i, 20)*2000, 65535)
	}
	r.Avg = average(r.Avg, 38000)
	return redChance(r)
}

func drawn(draw int) []impl.Event {
	e := comes(1, 1, 2000)
	e.Draw = draw
	return []impl.Event{e}
}

// Promise 14: RED hits just those whose Draw modulo One is below the chance; who knows marks is marked and let in, all others are dropped.
func TestDrawsOfRed(t *testing.T) {
	for _, more := range []int{35, 45, 60, 80, 97} {
		chance := heavyChance(more)
		if chance < 2 || chance > 65000 {
			t.Fatal("no chance to test with:", more, chance)
		}
		for _, draw := range []int{0, 1, chance - 1} {
			for _, round := range []int{0, 1, 2, 1000, 32767} {
				checkStruck(t, impl.QdRed, scriptOf(heavy(more), drawn(draw+round*65536)), 2, 1, "below the chance")
			}
		}
		for _, draw := range []int{chance, chance + 1, 65534, 65535} {
			for _, round := range []int{0, 1, 2, 1000, 32767} {
				checkStruck(t, impl.QdRed, scriptOf(heavy(more), drawn(draw+round*65536)), 0, 0, "not below the chance")
			}
		}
	}
}

// Promise 14: 38000 / 512 is 74 and some: below an average of 3000 nobody is hit, with whatever draw.
func TestRedWithoutAChance(t *testing.T) {
	for more := range 20 {
		for _, draw := range []int{0, 1, 65535, 65536, impl.Full - 65536, impl.Full - 1} {
			checkStruck(t, impl.QdRed, scriptOf(heavy(more), drawn(draw)), 0, 0, "a low average")
		}
	}
	if heavyChance(19) != 0 {
		t.Error("there is a chance")
	}
	for _, kind := range []int{impl.QdTail, impl.QdCodel, impl.QdFair, impl.QdShape} {
		checkStruck(t, kind, scriptOf(heavy(80), drawn(0)), 0, 0, "draws mean nothing to others")
	}
	checkStruck(t, impl.QdPie, scriptOf(heavy(80), drawn(0)), 0, 0, "a burst")
}

// Promise 14: a chance of One hits with whatever draw; behind that it is less again.
func TestRedWithAFullChance(t *testing.T) {
	for _, more := range []int{59, 78, 93} {
		if heavyChance(more) != impl.One {
			t.Fatal("no full chance:", more, heavyChance(more))
		}
		for _, draw := range []int{0, 65535, 65536, impl.Full - 1} {
			checkStruck(t, impl.QdRed, scriptOf(heavy(more), drawn(draw)), 2, 1, "a full chance")
			again := scriptOf(heavy(more), drawn(draw), []impl.Event{popAt(0), comes(1, 1, 2000)})
			checkStruck(t, impl.QdRed, again, 0, 0, "behind a full chance")
		}
	}
}

// RED hears of the line's bytes ahead of who comes, and of all who come, those that are dropped with them: with a packet less, or with smaller ones, the average is lower.
func TestWhatRedHearsOf(t *testing.T) {
	chance := heavyChance(50)
	if less := heavyChance(49); less >= chance {
		t.Fatal("chances do not grow:", less, chance)
	}
	checkStruck(t, impl.QdRed, scriptOf(heavy(50), drawn(chance-1)), 2, 1, "50 more")
	checkStruck(t, impl.QdRed, scriptOf(heavy(49), drawn(chance-1)), 0, 0, "49 more")
	checkStruck(t, impl.QdRed, scriptOf(heavy(50), []impl.Event{popAt(0), popAt(0)}, drawn(chance-1)), 0, 0, "fewer bytes")
	checkStruck(t, impl.QdRed, scriptOf(heavy(50), []impl.Event{tickAt(1000000000)}, drawn(chance-1)), 2, 1, "time plays no part")
}

// Promise 14: who is marked and finds 20 is dropped all the same, as it is then; who is dropped by RED, as it came.
func TestMarkedFinds20(t *testing.T) {
	for ecn := range 4 {
		script := scriptOf(times(100, comes(1, 1, 2000)), drawn(0))
		script[100].Ecn = ecn
		x := checkPassage(t, impl.QdRed, script)
		want := impl.Pkt{Id: 101, Flow: 1, Host: 1, Size: 2000, Ecn: 3 * min(ecn, 1)}
		if len(x.Left) != 20 || len(x.Drops) != 81 || x.Drops[80] != want {
			t.Errorf("RED, Ecn %d: %v", ecn, x.Drops)
		}
		script = scriptOf(waited(15000000, 10), []impl.Event{comes(1, 1, 2000)}, drawn(0))
		script[len(script)-1].Ecn = ecn
		x = checkPassage(t, impl.QdPie, script)
		want = impl.Pkt{Id: 22, Flow: 1, Host: 1, Size: 2000, At: 15000000, Ecn: 3 * min(ecn, 1)}
		if len(x.Left) != 20 || len(x.Drops) != 1 || x.Drops[0] != want {
			t.Errorf("PIE, Ecn %d: %v", ecn, x.Drops)
		}
	}
}

// waited has a full line and as many ticks behind that delay, all at once, and a pop. Who finds the line full lets time go on, and changes nothing else.
func waited(delay, ticks int) []impl.Event {
	script := times(20, comes(1, 1, 1500))
	for ; delay > 1000000000; delay -= 1000000000 {
		e := comes(1, 1, 1500)
		e.Gap = 1000000000
		script = append(script, e)
	}
	return scriptOf(script, []impl.Event{tickAt(delay)}, times(ticks-1, tickAt(0)), []impl.Event{popAt(0)})
}

// Promise 14, by hand: ten ticks with a delay at Target. The first makes a chance of 268 times 150000000 divided by 1000 times 2048, the others none; the burst is over with the tenth.
func TestChancesOfPieByHand(t *testing.T) {
	const chance = 19628
	for _, draw := range []int{0, 1, chance - 1} {
		checkStruck(t, impl.QdPie, scriptOf(waited(15000000, 10), drawn(draw)), 2, 1, "below the chance")
		checkStruck(t, impl.QdPie, scriptOf(waited(15000000, 30), drawn(draw)), 2, 1, "more ticks")
		checkStruck(t, impl.QdPie, scriptOf(waited(15000000, 9), drawn(draw)), 0, 0, "in a burst")
	}
	for _, draw := range []int{chance, chance + 1, 65536, impl.Full - 1} {
		checkStruck(t, impl.QdPie, scriptOf(waited(15000000, 10), drawn(draw)), 0, 0, "not below the chance")
	}
}

// Promise 14: PIE hears of the line's bytes ahead of who comes: with 3000 nobody is hit, with 3001 somebody is.
func TestShortLinesOfPie(t *testing.T) {
	for size, want := range map[int]int{1: 0, 1499: 0, 1500: 0, 1501: 1, 2000: 1} {
		script := []impl.Event{comes(1, 1, 40), comes(2, 2, 1500), comes(3, 3, size)}
		script = scriptOf(script, []impl.Event{tickAt(15000000)}, times(9, tickAt(0)), []impl.Event{popAt(0)}, drawn(0))
		checkStruck(t, impl.QdPie, script, 2*want, want, "a short line")
	}
}

// Promise 14, by hand: a delay of 10000000000 and whatever is above are alike; above Full / 10 all are dropped, those that know marks with them.
func TestLongestWaitsOfPie(t *testing.T) {
	// The first tick: 268 times 109985000000 divided by 2048000, and 42949672; the second: 268 times 9985000000 divided by 2000, and 42949672; 85899344 with each of the others.
	const chance = 57342240 + 1337990000 + 42949672 + 8*85899344
	for _, delay := range []int{10000000000, 10000000001, 10999999999, 11000000000, 20000000000, 60000000000} {
		for _, draw := range []int{0, 65536, chance - 1} {
			checkStruck(t, impl.QdPie, scriptOf(waited(delay, 10), drawn(draw)), 2, 2, "below the chance")
		}
		for _, draw := range []int{chance, impl.Full - 1} {
			checkStruck(t, impl.QdPie, scriptOf(waited(delay, 10), drawn(draw)), 0, 0, "not below the chance")
		}
	}
	const less = 57342240 + 1337989999 + 42949672 + 8*85899344
	checkStruck(t, impl.QdPie, scriptOf(waited(9999999999, 10), drawn(less-1)), 2, 2, "one below")
	checkStruck(t, impl.QdPie, scriptOf(waited(9999999999, 10), drawn(less)), 0, 0, "one below")
}

// Promise 14: a tick without a packet and one with a packet that has just come tell a delay of 0.
func TestTicksWithoutADelay(t *testing.T) {
	full, emptied := waited(15000000, 10), times(19, popAt(0))
	fill := times(4, comes(1, 1, 2000))
	for name, between := range map[string][]impl.Event{
		"without a packet":   scriptOf(emptied, []impl.Event{tickAt(0)}, fill),
		"just come":          scriptOf(emptied, fill, []impl.Event{tickAt(0)}),
		"without, and later": scriptOf(emptied, []impl.Event{tickAt(1000000000)}, fill),
	} {
		checkStruck(t, impl.QdPie, scriptOf(full, between, drawn(0)), 0, 0, name)
	}
	checkStruck(t, impl.QdPie, scriptOf(full, emptied, fill, drawn(0)), 2, 1, "no tick")
	checkStruck(t, impl.QdPie, scriptOf(full, emptied, fill, []impl.Event{tickAt(15000000)}, drawn(0)), 2, 1, "a delay again")
	checkStruck(t, impl.QdPie, scriptOf(times(10, tickAt(15000000)), fill, drawn(0)), 0, 0, "ticks ahead of all")
	checkStruck(t, impl.QdPie, scriptOf(fill, times(10, tickAt(0)), drawn(0)), 0, 0, "no time at all")
}

// Promise 14: who has waited is the first one, not the last that came.
func TestTicksGoByTheFirst(t *testing.T) {
	last := comes(1, 1, 1500)
	last.Gap = 7500000
	script := scriptOf(times(3, comes(1, 1, 1500)), []impl.Event{last, tickAt(7500000)}, times(9, tickAt(0)))
	checkStruck(t, impl.QdPie, scriptOf(script, drawn(19627)), 2, 1, "the first one's wait")
	checkStruck(t, impl.QdPie, scriptOf(script, drawn(19628)), 0, 0, "the first one's wait")
}

// Promise 14, by hand: CoDel looks at 5000000 first; who is the first 100000000 later is hit, and nobody one ahead of that.
func TestLateRuns(t *testing.T) {
	codel := []int{impl.QdCodel}
	four := times(4, comes(1, 1, 1000))
	checkRuns(t, []runCase{
		{"one ahead", codel, scriptOf(four, []impl.Event{popAt(5000000), popAt(99999999)}), []int{1, 2}, []int{5000000, 104999999}, nil, []int{3, 4}, 104999999},
		{"late", codel, scriptOf(four, []impl.Event{popAt(5000000), popAt(100000000)}), []int{1, 3}, []int{5000000, 105000000}, []int{2}, []int{4}, 105000000},
		{"no Target", codel, scriptOf(four, []impl.Event{popAt(4999999), popAt(100000001)}), []int{1, 2}, []int{4999999, 105000000}, nil, []int{3, 4}, 105000000},
		{"few bytes", codel, scriptOf(times(4, comes(1, 1, 375)), []impl.Event{popAt(5000000), popAt(100000000)}), []int{1, 2}, []int{5000000, 105000000}, nil, []int{3, 4}, 105000000},
		{"the others do not look", []int{impl.QdTail, impl.QdRed, impl.QdPie, impl.QdShape}, scriptOf(four, []impl.Event{popAt(5000000), popAt(100000000)}), []int{1, 2}, []int{5000000, 105000000}, nil, []int{3, 4}, 105000000},
		{"the last is dropped, nobody goes out", codel, []impl.Event{comes(1, 1, 2000), comes(1, 1, 2000), popAt(5000000), popAt(100000000), popAt(0)}, []int{1}, []int{5000000}, []int{2}, nil, 105000000},
		{"room behind drops", codel, scriptOf(times(20, comes(1, 1, 1000)), []impl.Event{popAt(5000000), popAt(100000000)}, times(4, comes(1, 1, 1000))), []int{1, 3}, []int{5000000, 105000000}, []int{2, 24}, numbers(4, 23), 105000000},
		{"several at once", codel, scriptOf(times(20, comes(1, 1, 1000)), []impl.Event{popAt(5000000), popAt(100000000), popAt(300000000)}), []int{1, 3, 8}, []int{5000000, 105000000, 405000000}, []int{2, 4, 5, 6, 7}, numbers(9, 20), 405000000},
	})
}

// Promise 14: who knows marks is marked by CoDel, not dropped, and goes out so.
func TestMarkedRuns(t *testing.T) {
	for ecn := impl.EcOne; ecn <= impl.EcCe; ecn++ {
		for _, kind := range []int{impl.QdCodel, impl.QdFair} {
			script := scriptOf(times(4, comes(1, 1, 1000)), []impl.Event{popAt(5000000), popAt(100000000), popAt(0)})
			for i := range script[:4] {
				script[i].Ecn = ecn
			}
			x := checkPassage(t, kind, script)
			if len(x.Drops) != 0 || len(x.Outs) != 3 || x.Outs[0].Ecn != ecn || x.Outs[1].Ecn != impl.EcCe || x.Outs[2].Ecn != ecn || x.Left[0].Ecn != ecn {
				t.Errorf("kind %d, Ecn %d: %v", kind, ecn, x)
			}
		}
	}
}
