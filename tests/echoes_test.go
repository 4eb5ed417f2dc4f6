package tests

import (
	"math"
	"testing"

	"loop.example/g00453/impl"
)

// echoSender has this Flight at 50000, and this Cut.
func echoSender(flight, cut int) impl.Reno {
	return impl.Reno{Mss: 1000, Cwnd: 12000, Thresh: 8000, Acked: 1000, Una: 50000, Next: 50000 + flight, Recover: 40000, Cut: cut}
}

// Promise 10: an echo with a Cut at what Una is then, one below and one above; with an ack that is new, and with one that comes again.
func TestEchoesAroundCut(t *testing.T) {
	for _, c := range []struct {
		name           string
		ack, cut, want int
	}{
		{"again, one above Cut", 50000, 49999, 5000}, {"again, at Cut", 50000, 50000, 5000}, {"again, one below Cut", 50000, 50001, 12000}, {"again, far below Cut", 50000, 60000, 12000},
		{"new, one above Cut", 53000, 52999, 5000}, {"new, at Cut", 53000, 53000, 5000}, {"new, one below Cut", 53000, 53001, 12000}, {"new, from below Cut to it", 60000, 60000, 5000},
		{"one byte, at Cut", 50001, 50001, 5000}, {"one byte, one below Cut", 50001, 50002, 12000}, {"never cut", 50001, 0, 5000},
	} {
		r := echoSender(10000, c.cut)
		plain := checkAcked(t, r, c.ack, false)
		got := checkAcked(t, r, c.ack, true)
		if plain.Cwnd != 12000 || plain.Cut != c.cut || got.Cwnd != c.want {
			t.Errorf("%s: %+v, without an echo %+v", c.name, got, plain)
		}
		if c.want == 12000 && got != plain {
			t.Errorf("%s: an echo that does not count makes %+v of %+v", c.name, got, plain)
		}
		if c.want == 5000 && (got.Thresh != 5000 || got.Acked != 0 || got.Cut != 60000 || got.Una != c.ack || got.Dups != plain.Dups || got.Recover != 40000 || got.In) {
			t.Errorf("%s: %+v", c.name, got)
		}
	}
}

// Promise 10: a Half for an echo that is less than 2 Mss, of an odd Flight, and above MaxWin; Flight is what it was ahead of the ack.
func TestHalvesOfEchoes(t *testing.T) {
	for _, c := range []struct{ flight, half int }{
		{0, 2000}, {1, 2000}, {3999, 2000}, {4000, 2000}, {4001, 2000}, {4002, 2001}, {4003, 2001}, {10001, 5000},
		{199999998, 99999999}, {199999999, 99999999}, {200000000, 100000000}, {200000001, 100000000}, {200000002, 100000000}, {mostTime - 50000, 100000000},
	} {
		r := echoSender(c.flight, 0)
		for _, ack := range []int{r.Una, min(r.Una+1, r.Next), (r.Una + r.Next) / 2, r.Next} {
			if got := checkAcked(t, r, ack, true); got.Thresh != c.half || got.Cwnd != c.half || got.Acked != 0 || got.Cut != r.Next {
				t.Errorf("a Flight of %d, an ack of %d: %+v", c.flight, ack, got)
			}
		}
	}
	for _, mss := range []int{1, 10000} {
		r := impl.Reno{Mss: mss, Cwnd: mss, Thresh: mostWindow, Next: 3 * mss}
		if got := checkAcked(t, r, mss, true); got.Cwnd != 2*mss || got.Thresh != 2*mss {
			t.Errorf("the least window of %d: %+v", mss, got)
		}
	}
}

// Promise 10: an echo may widen a window, but to Half alone.
func TestEchoesOfNarrowWindows(t *testing.T) {
	r := echoSender(40000, 0)
	r.Cwnd = 1000
	if got := checkAcked(t, r, 51000, true); got.Cwnd != 20000 || got.Thresh != 20000 {
		t.Errorf("%+v", got)
	}
	if got := checkAcked(t, r, 51000, false); got.Cwnd != 2000 || got.Thresh != 8000 {
		t.Errorf("%+v", got)
	}
}

// Promise 10: an echo counts by what In has become: not behind the third ack again, but behind a full ack.
func TestEchoesAndRecovery(t *testing.T) {
	third := same(2, 10000, 40000)
	if got := checkAcked(t, third, 50000, true); got != entered(10000, 5000) {
		t.Errorf("the third one: %+v", got)
	}
	for _, cut := range []int{0, 58000, 58001} {
		r := mending(12000, 58000)
		r.Cut = cut
		want := mended(3000, 58000, 58000, false)
		want.Cut = cut
		if cut <= 58000 {
			want.Cwnd, want.Thresh, want.Cut = 5000, 5000, 60000
		}
		if got := checkAcked(t, r, 58000, true); got != want {
			t.Errorf("a full ack, with a Cut of %d: %+v, want %+v", cut, got, want)
		}
		if got := checkAcked(t, r, 57999, true); got.Cut != cut || !got.In {
			t.Errorf("a partial ack, with a Cut of %d: %+v", cut, got)
		}
	}
}

// Promise 10: echoes one behind the other, with acks below Cut, at it and above it: halved once while what was under way then is.
func TestEchoesOneBehindTheOther(t *testing.T) {
	r := impl.Reno{Mss: 1000, Cwnd: 40000, Thresh: 30000, Next: 40000}
	var cuts []int
	for ack := 1000; ack <= 120000; ack += 1000 {
		was := r
		r = checkAcked(t, r, ack, true)
		if r.Cut != was.Cut {
			if r.Una < was.Cut || r.Cut != was.Next || r.Cwnd != max(2000, impl.Flight(was)/2) {
				t.Fatalf("%+v became %+v", was, r)
			}
			cuts = append(cuts, r.Una)
		} else if r.Una >= was.Cut || r.Cwnd < was.Cwnd || r.Cwnd > was.Cwnd+1000 {
			t.Fatalf("%+v became %+v", was, r)
		}
		r = filled(t, r, math.MaxInt, func() int { return 1000 })
	}
	want := []int{1000, 40000, 60000}
	if len(cuts) < 3 {
		t.Fatal("halved at", cuts)
	}
	for i, at := range want {
		if cuts[i] != at {
			t.Fatalf("halved at %v, want %v first", cuts, want)
		}
	}
}

// Promise 10: the same ack with an echo, again and again, halves once; with nothing under way each time, to the same.
func TestEchoesOfOneAck(t *testing.T) {
	first := checkAcked(t, echoSender(10000, 50000), 50000, true)
	second := checkAcked(t, first, 50000, true)
	if first.Cwnd != 5000 || first.Cut != 60000 || second.Cwnd != 5000 || second.Cut != 60000 || second.Dups != 2 {
		t.Errorf("%+v, then %+v", first, second)
	}
	idle := echoSender(0, 50000)
	for range 3 {
		idle = checkAcked(t, idle, 50000, true)
		if idle != (impl.Reno{Mss: 1000, Cwnd: 2000, Thresh: 2000, Una: 50000, Next: 50000, Recover: 40000, Cut: 50000}) {
			t.Fatalf("nothing under way: %+v", idle)
		}
	}
}

// Promise 10: behind a time-out nothing is under way, so the next echo counts.
func TestEchoesBehindTimeOuts(t *testing.T) {
	r := checkAcked(t, echoSender(10000, 0), 52000, true)
	r = checkTimedOut(t, r)
	r = checkSent(t, r, 1000)
	got := checkAcked(t, r, 52000, true)
	if r.Cut != 52000 || got.Cwnd != 2000 || got.Thresh != 2000 || got.Cut != 53000 {
		t.Errorf("%+v became %+v", r, got)
	}
}

// brought brings n into least .. most.
func brought(n, least, most int) int { return min(max(n, least), most) }

// anySender makes senders of all sizes, most of their fields near the edges of others.
func anySender(d *dice) impl.Reno {
	mss := d.one(1, 2, 3, 100, 1000, 1460, 9999, 10000)
	r := impl.Reno{Mss: mss, Dups: d.one(0, 1, 2, 2, 2, 3, 4, 999999, 1000000)}
	r.Next = d.one(0, 1, d.below(100*mss), 50000+d.below(100*mss), d.below(mostTime), mostTime-d.below(3))
	flight := d.one(0, 1, mss-1, mss, mss+1, 2*mss, 4*mss+d.below(5)-2, d.below(40*mss), d.below(40*mss), d.below(40*mss), d.below(3*mostWindow), 2*mostWindow+d.below(5)-2)
	r.Una = brought(r.Next-flight, 0, r.Next)
	flight = r.Next - r.Una
	r.Cwnd = brought(d.one(mss, mss+1, 2*mss, flight, flight+1, flight-1, mostWindow-d.below(2*mss), mss+d.below(40*mss), mss+d.below(40*mss), d.below(mostWindow)), mss, mostWindow)
	r.Thresh = brought(d.one(2*mss, r.Cwnd-1, r.Cwnd, r.Cwnd+1, mostWindow, mss+d.below(40*mss)), 2*mss, mostWindow)
	r.Acked = brought(d.one(0, 1, r.Cwnd-1, r.Cwnd, r.Cwnd+1, r.Cwnd-mss, d.below(r.Cwnd), mostWindow-d.below(3)), 0, mostWindow)
	r.Recover = brought(d.one(0, r.Una-1, r.Una, r.Una+1, r.Next, r.Next-1, r.Una+d.below(flight+1), r.Una+d.below(flight+1)), 0, r.Next)
	r.Cut = brought(d.one(0, r.Una-1, r.Una, r.Una+1, r.Next, r.Next-1, r.Una+d.below(flight+1), r.Una+d.below(flight+1)), 0, r.Next)
	r.In = r.Recover > r.Una && d.below(2) == 0
	return r
}

// wrongedSender changes one field, which is mostly no longer as it should be then.
func wrongedSender(d *dice, r impl.Reno) impl.Reno {
	fields := []*int{&r.Mss, &r.Cwnd, &r.Thresh, &r.Acked, &r.Una, &r.Next, &r.Dups, &r.Recover, &r.Cut}
	if at := d.below(len(fields) + 1); at < len(fields) {
		*fields[at] = d.one(-1, 0, r.Mss-1, 2*r.Mss-1, r.Next+1, r.Una, r.Recover, r.Cut, r.Thresh/2+1, 10001, 1000001, mostWindow+1, mostTime+1, math.MaxInt, math.MinInt)
		return r
	}
	r.In = !r.In
	return r
}

// Promise 10: senders of all forms, with acks and echoes of all kinds.
func TestSendersOfAllForms(t *testing.T) {
	d := newDice()
	kinds := map[string]int{}
	for range 100000 {
		r := anySender(d)
		acks := acksAround(r)
		ack := d.one(r.Una, r.Una+d.below(r.Next-r.Una+1), acks[d.below(len(acks))], acks[d.below(len(acks))])
		checkBothAcked(t, r, ack)
		checkTimedOut(t, r)
		checkSent(t, r, d.one(bytesAround(r)...))
		checkMaySend(t, r, d.one(windowsAround(r)...))
		if t.Failed() {
			t.FailNow()
		}
		if ack < r.Una || ack > r.Next {
			kinds["none"]++
			continue
		}
		h := hearingOf(r, ack, true)
		for kind, is := range map[string]bool{
			"new": h.fresh, "again": h.again, "full": h.full, "part": h.part, "enters": h.enters, "cut": h.cut, "idle": !h.fresh && !h.again,
			"full and cut": h.full && h.cut, "enters, not cut": h.enters && ack >= r.Cut, "again in recovery": h.again && r.In,
			"slow": h.fresh && !r.In && r.Cwnd < r.Thresh, "steady": h.fresh && !r.In && r.Cwnd >= r.Thresh, "not cut": !h.cut,
		} {
			if is {
				kinds[kind]++
			}
		}
	}
	if len(kinds) != 14 {
		t.Error("one kind is missing:", kinds)
	}
	for kind, count := range kinds {
		if count < 300 {
			t.Error("too few of one kind:", kind, count)
		}
	}
}

func TestWrongedSenders(t *testing.T) {
	d := newDice()
	count := [2]int{}
	for range 60000 {
		r := wrongedSender(d, anySender(d))
		if senderOk(r) {
			count[0]++
			checkSender(t, r, "still as it should be")
		} else {
			count[1]++
			checkNoSender(t, r, "no longer as it should be")
		}
		if t.Failed() {
			t.FailNow()
		}
	}
	if count[0] < 1000 || count[1] < 10000 {
		t.Error("too few of one kind:", count)
	}
}

// travel is a sender on its way from RenoNew on, and up to where an echo may not count, reckoned without its Cut.
type travel struct {
	r     impl.Reno
	until int
	cuts  int
	outs  int
	ins   int
}

// hear asks the promise's second sentence of each ack: an echo below what was under way at the last cut changes nothing.
func (v *travel) hear(t *testing.T, ack int, echo bool) {
	t.Helper()
	plain, heard := checkAcked(t, v.r, ack, false), checkAcked(t, v.r, ack, true)
	counts := !plain.In && ack >= v.until
	if !counts && heard != plain {
		t.Fatalf("halved at %d, ahead of %d: %+v became %+v", ack, v.until, v.r, heard)
	}
	if counts && (heard.Cwnd != half(v.r) || heard.Cut != v.r.Next) {
		t.Fatalf("not halved at %d: %+v became %+v", ack, v.r, heard)
	}
	if plain.In && !v.r.In {
		v.ins++
	}
	v.r = plain
	if echo {
		v.r = heard
	}
	if echo && counts {
		v.until = v.r.Next
		v.cuts++
	}
}

func (v *travel) timeOut(t *testing.T) {
	t.Helper()
	if impl.Flight(v.r) == 0 {
		return
	}
	v.r = checkTimedOut(t, v.r)
	v.until = min(v.until, v.r.Una)
	v.outs++
}

func (v *travel) send(t *testing.T, d *dice, window int) {
	t.Helper()
	was := impl.Flight(v.r)
	for range d.below(20) {
		room := impl.MaySend(v.r, window)
		if room == 0 {
			break
		}
		v.r = checkSent(t, v.r, min(room, d.one(v.r.Mss, v.r.Mss, 1+d.below(v.r.Mss))))
	}
	if impl.Flight(v.r) > max(was, min(v.r.Cwnd, window)) {
		t.Fatalf("%d are under way, with a window of %d: %+v", impl.Flight(v.r), window, v.r)
	}
}

// Promise 10: long ways of senders, with losses, echoes and time-outs, each step held against all sentences.
func TestLongWaysOfSenders(t *testing.T) {
	d := newDice()
	for _, mss := range []int{1, 2, 100, 1460, 10000} {
		r, _ := impl.RenoNew(mss)
		v := &travel{r: r}
		for range 20000 {
			v.send(t, d, d.one(math.MaxInt, math.MaxInt, 30*mss, 8*mss, 0))
			switch d.below(8) {
			case 0, 1, 2:
				for range 1 + d.below(5) {
					v.hear(t, v.r.Una, d.below(20) == 0)
				}
			case 3:
				v.hear(t, v.r.Next, d.below(8) == 0)
			case 4:
				if d.below(20) == 0 {
					v.timeOut(t)
				}
			default:
				v.hear(t, min(v.r.Una+d.one(mss, 2*mss, 1+d.below(3*mss)), v.r.Next), d.below(8) == 0)
			}
			if t.Failed() {
				t.FailNow()
			}
		}
		if v.cuts < 100 || v.outs < 50 || v.ins < 100 {
			t.Errorf("an Mss of %d: %d cuts, %d time-outs, %d recoveries", mss, v.cuts, v.outs, v.ins)
		}
	}
}

// No function keeps anything: answers are the same whatever was asked ahead.
func TestSendersKeepNothing(t *testing.T) {
	d := newDice()
	var list, first []impl.Reno
	for range 1000 {
		r := anySender(d)
		after, _ := impl.Acked(r, r.Una, true)
		list, first = append(list, r), append(first, after)
	}
	for i := len(list) - 1; i >= 0; i-- {
		impl.Acked(list[i/2], list[i/2].Next, true)
		impl.TimedOut(list[i/3])
		impl.Acked(impl.Reno{}, i, true)
		if got, _ := impl.Acked(list[i], list[i].Una, true); got != first[i] {
			t.Fatalf("Acked was %+v, is %+v", first[i], got)
		}
	}
}
