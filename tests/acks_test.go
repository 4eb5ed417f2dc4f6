package tests

import (
	"math"
	"testing"

	"loop.example/g00453/impl"
)

// acksAround has those that might come, at the edges of r.
func acksAround(r impl.Reno) []int {
	list := []int{math.MinInt, -1, math.MaxInt, mostTime + 1, r.Una + r.Mss - 1, r.Una + r.Mss, r.Una + r.Mss + 1}
	for _, at := range []int{r.Una, r.Next, r.Recover, r.Cut, r.Una + r.Cwnd - r.Acked, r.Una + r.Cwnd} {
		list = append(list, at-1, at, at+1)
	}
	return list
}

// hearing is what happens at one ack, told apart ahead of any reckoning.
type hearing struct{ fresh, again, full, part, enters, in, cut bool }

func hearingOf(r impl.Reno, ack int, echo bool) (h hearing) {
	h.fresh = ack > r.Una
	h.again = ack == r.Una && r.Next != r.Una
	h.full = r.In && h.fresh && ack >= r.Recover
	h.part = r.In && h.fresh && ack < r.Recover
	h.enters = !r.In && h.again && r.Dups == 2 && r.Recover <= r.Una
	h.in = h.enters || r.In && !h.full
	h.cut = echo && !h.in && r.Cut <= ack
	return h
}

// windowBehind is what Cwnd is ahead of any echo, and Acked.
func windowBehind(r impl.Reno, ack int, h hearing) (cwnd, acked int) {
	bytes, left := ack-r.Una, r.Next-ack
	cwnd, acked = r.Cwnd, r.Acked
	switch {
	case h.enters:
		cwnd, acked = half(r)+3*r.Mss, 0
	case h.again && r.In:
		cwnd += r.Mss
	case h.full:
		cwnd = r.Mss + r.Mss
		if left > r.Mss {
			cwnd = r.Mss + left
		}
		if r.Thresh < cwnd {
			cwnd = r.Thresh
		}
	case h.part:
		cwnd -= bytes
		if cwnd < r.Mss {
			cwnd = r.Mss
		}
		if bytes >= r.Mss {
			cwnd += r.Mss
		}
	case h.fresh && r.Cwnd < r.Thresh && bytes < r.Mss:
		cwnd += bytes
	case h.fresh && r.Cwnd < r.Thresh:
		cwnd += r.Mss
	case h.fresh:
		acked += bytes
		if acked > mostWindow {
			acked = mostWindow
		}
		if acked >= r.Cwnd {
			cwnd, acked = r.Cwnd+r.Mss, acked-r.Cwnd
		}
	}
	return min(cwnd, mostWindow), acked
}

// replied is Acked of what is as it should be, field by field.
func replied(r impl.Reno, ack int, echo bool) impl.Reno {
	h := hearingOf(r, ack, echo)
	after := impl.Reno{Mss: r.Mss, Una: ack, Next: r.Next, In: h.in, Thresh: r.Thresh, Dups: r.Dups, Recover: r.Recover, Cut: r.Cut}
	after.Cwnd, after.Acked = windowBehind(r, ack, h)
	if h.fresh {
		after.Dups = 0
	}
	if h.again && r.Dups < 1000000 {
		after.Dups++
	}
	if h.enters {
		after.Recover, after.Thresh = r.Next, half(r)
	}
	if h.cut {
		after.Cut, after.Thresh, after.Cwnd, after.Acked = r.Next, half(r), half(r), 0
	}
	return after
}

// checkGrowth asks the promise's first sentence.
func checkGrowth(t *testing.T, r impl.Reno, ack int, echo bool, after impl.Reno) {
	t.Helper()
	if !impl.RenoOk(after) || !senderOk(after) {
		t.Errorf("Acked(%+v, %d, %v) = %+v: it is not RenoOk", r, ack, echo, after)
	}
	if r.In || after.In {
		return
	}
	most := r.Cwnd + r.Mss
	if echo {
		most = max(most, impl.Flight(r)/2, 2*r.Mss)
	}
	if after.Cwnd > most {
		t.Errorf("Acked(%+v, %d, %v) = %+v: Cwnd is above %d", r, ack, echo, after, most)
	}
}

func checkAcked(t *testing.T, r impl.Reno, ack int, echo bool) impl.Reno {
	t.Helper()
	want, well := r, ack >= r.Una && ack <= r.Next
	if well {
		want = replied(r, ack, echo)
	}
	got, ok := impl.Acked(r, ack, echo)
	if got != want || ok != well {
		t.Errorf("Acked(%+v, %d, %v) = %+v, %v, want %+v, %v", r, ack, echo, got, ok, want, well)
	}
	checkGrowth(t, r, ack, echo, got)
	return got
}

func checkBothAcked(t *testing.T, r impl.Reno, ack int) {
	t.Helper()
	checkAcked(t, r, ack, false)
	checkAcked(t, r, ack, true)
}

// ackCase tells by hand what an ack makes of r; an echo has Half behind it, or nothing.
type ackCase struct {
	name string
	r    impl.Reno
	ack  int
	want impl.Reno
	half int
}

// checkAcks asks each with an echo too: that halves the window if a half is told, and does nothing else.
func checkAcks(t *testing.T, list []ackCase) {
	t.Helper()
	for _, c := range list {
		if got := checkAcked(t, c.r, c.ack, false); got != c.want {
			t.Errorf("%s: an ack of %d answers %+v, want %+v", c.name, c.ack, got, c.want)
		}
		want := c.want
		if c.half > 0 {
			want.Thresh, want.Cwnd, want.Acked, want.Cut = c.half, c.half, 0, c.r.Next
		}
		if got := checkAcked(t, c.r, c.ack, true); got != want {
			t.Errorf("%s: an ack of %d with an echo answers %+v, want %+v", c.name, c.ack, got, want)
		}
	}
}

// slow has a Thresh that is far away; 10000 bytes are under way.
func slow(cwnd, thresh int) impl.Reno {
	return impl.Reno{Mss: 1000, Cwnd: cwnd, Thresh: thresh, Acked: 300, Una: 50000, Next: 60000, Dups: 2, Recover: 40000, Cut: 45000}
}

func slowBehind(ack, cwnd, thresh, acked int) impl.Reno {
	return impl.Reno{Mss: 1000, Cwnd: cwnd, Thresh: thresh, Acked: acked, Una: ack, Next: 60000, Recover: 40000, Cut: 45000}
}

// Promise 10: below Thresh, with 1 byte, Mss, one below and one above, and all; Cwnd at Thresh, one below and one above.
func TestSlowStarts(t *testing.T) {
	checkAcks(t, []ackCase{
		{"1 byte", slow(12000, 30000), 50001, slowBehind(50001, 12001, 30000, 300), 5000},
		{"Mss less one", slow(12000, 30000), 50999, slowBehind(50999, 12999, 30000, 300), 5000},
		{"Mss", slow(12000, 30000), 51000, slowBehind(51000, 13000, 30000, 300), 5000},
		{"Mss and one", slow(12000, 30000), 51001, slowBehind(51001, 13000, 30000, 300), 5000},
		{"Next less one", slow(12000, 30000), 59999, slowBehind(59999, 13000, 30000, 300), 5000},
		{"Next", slow(12000, 30000), 60000, slowBehind(60000, 13000, 30000, 300), 5000},
		{"one below Thresh", slow(11999, 12000), 51000, slowBehind(51000, 12999, 12000, 300), 5000},
		{"at Thresh", slow(12000, 12000), 51000, slowBehind(51000, 12000, 12000, 1300), 5000},
		{"one above Thresh", slow(12001, 12000), 51000, slowBehind(51000, 12001, 12000, 1300), 5000},
		{"at the least", slow(1000, 2000), 50400, slowBehind(50400, 1400, 2000, 300), 5000},
	})
}

// Promise 10: not below Thresh, with an Acked that comes just to Cwnd, one below and one above, and to far more.
func TestSteadyGrowth(t *testing.T) {
	steady := func(acked int) impl.Reno {
		r := slow(5000, 4000)
		r.Acked = acked
		return r
	}
	checkAcks(t, []ackCase{
		{"one below Cwnd", steady(4000), 50999, slowBehind(50999, 5000, 4000, 4999), 5000},
		{"Cwnd", steady(4000), 51000, slowBehind(51000, 6000, 4000, 0), 5000},
		{"one above Cwnd", steady(4000), 51001, slowBehind(51001, 6000, 4000, 1), 5000},
		{"from 0 on, one below Cwnd", steady(0), 54999, slowBehind(54999, 5000, 4000, 4999), 5000},
		{"from 0 on, Cwnd", steady(0), 55000, slowBehind(55000, 6000, 4000, 0), 5000},
		{"from 0 on, one above Cwnd", steady(0), 55001, slowBehind(55001, 6000, 4000, 1), 5000},
		{"twice Cwnd goes up once", steady(0), 60000, slowBehind(60000, 6000, 4000, 5000), 5000},
		{"there already", steady(5000), 50001, slowBehind(50001, 6000, 4000, 1), 5000},
		{"one below, and 1 byte", steady(4999), 50001, slowBehind(50001, 6000, 4000, 0), 5000},
		{"far more", steady(80000), 50001, slowBehind(50001, 6000, 4000, 75001), 5000},
		{"MaxWin less one", steady(99999999), 50001, slowBehind(50001, 6000, 4000, 99995000), 5000},
		{"MaxWin", steady(100000000), 50001, slowBehind(50001, 6000, 4000, 99995000), 5000},
	})
}

// far has a great deal under way, and a Thresh below Cwnd.
func far(cwnd, acked int) impl.Reno {
	return impl.Reno{Mss: 1000, Cwnd: cwnd, Thresh: 2000, Acked: acked, Una: 1000000, Next: 901000000}
}

// Promise 10: an Acked that comes to MaxWin, one below and one above; windows that would go above MaxWin.
func TestGrowthAtMaxWin(t *testing.T) {
	behind := func(ack, cwnd, acked int) impl.Reno {
		return impl.Reno{Mss: 1000, Cwnd: cwnd, Thresh: 2000, Acked: acked, Una: ack, Next: 901000000}
	}
	wide := func(cwnd, ack int, add int) (impl.Reno, impl.Reno) {
		r := impl.Reno{Mss: 1000, Cwnd: cwnd, Thresh: 100000000, Una: 1000000, Next: 901000000}
		after := r
		after.Una, after.Cwnd = ack, cwnd+add
		return r, after
	}
	list := []ackCase{
		{"one below MaxWin", far(100000000, 60000000), 40999999, behind(40999999, 100000000, 99999999), 100000000},
		{"MaxWin", far(100000000, 60000000), 41000000, behind(41000000, 100000000, 0), 100000000},
		{"one above MaxWin", far(100000000, 60000000), 41000001, behind(41000001, 100000000, 0), 100000000},
		{"far above MaxWin", far(100000000, 60000000), 901000000, behind(901000000, 100000000, 0), 100000000},
		{"above MaxWin with a narrow window", far(5000, 60000000), 901000000, behind(901000000, 6000, 99995000), 100000000},
		{"Mss below MaxWin", far(99999000, 99998999), 1000001, behind(1000001, 100000000, 0), 100000000},
		{"one more", far(99999001, 99999000), 1000001, behind(1000001, 100000000, 0), 100000000},
		{"one less", far(99998999, 99998998), 1000001, behind(1000001, 99999999, 0), 100000000},
	}
	for _, c := range []struct{ cwnd, bytes, add int }{{99998999, 5000, 1000}, {99999000, 5000, 1000}, {99999001, 5000, 999}, {99999999, 5000, 1}, {99999999, 1, 1}, {99999998, 1, 1}, {99999998, 2, 2}, {99999998, 3, 2}} {
		r, after := wide(c.cwnd, 1000000+c.bytes, c.add)
		list = append(list, ackCase{"below Thresh", r, 1000000 + c.bytes, after, 100000000})
	}
	checkAcks(t, list)
}

// Promise 10: acks below Una and above Next, one and far: r stays, whatever is echoed.
func TestAcksThatAreNone(t *testing.T) {
	idle := ordinarySender()
	idle.Una = idle.Next
	last := impl.Reno{Mss: 10, Cwnd: 100, Thresh: 20, Una: mostTime - 5, Next: mostTime, Dups: 2}
	for _, r := range []impl.Reno{ordinarySender(), recoveringSender(), idle, last, {Mss: 1, Cwnd: 1, Thresh: 2}, {Mss: 1, Cwnd: 1, Thresh: 2, Dups: 2, Next: 1}} {
		for _, ack := range []int{r.Una - 1, r.Next + 1, r.Una - 1000, r.Next + 1000, -1, mostTime + 1, math.MinInt, math.MaxInt} {
			for _, echo := range []bool{false, true} {
				if got, ok := impl.Acked(r, ack, echo); ok || got != r {
					t.Errorf("Acked(%+v, %d, %v) = %+v, %v", r, ack, echo, got, ok)
				}
			}
		}
		checkBothAcked(t, r, r.Una)
		checkBothAcked(t, r, r.Next)
	}
}

// same has an ack that comes again, with so many ahead of it.
func same(dups, flight, back int) impl.Reno {
	return impl.Reno{Mss: 1000, Cwnd: 12000, Thresh: 8000, Acked: 3000, Una: 50000, Next: 50000 + flight, Dups: dups, Recover: back, Cut: 45000}
}

func sameBehind(dups, flight, back int) impl.Reno {
	return same(dups+1, flight, back)
}

// entered is what is In then, with this Half.
func entered(flight, half int) impl.Reno {
	r := same(3, flight, 50000+flight)
	r.Thresh, r.Cwnd, r.Acked, r.In = half, half+3000, 0, true
	return r
}

// Promise 10: Dups that come to 1, 2, 3 and 4, and to 1000000; Una at Recover, one below and one above; an idle sender.
func TestAcksThatComeAgain(t *testing.T) {
	full := same(1000000, 10000, 40000)
	idle := same(2, 0, 40000)
	checkAcks(t, []ackCase{
		{"1", same(0, 10000, 40000), 50000, sameBehind(0, 10000, 40000), 5000},
		{"2", same(1, 10000, 40000), 50000, sameBehind(1, 10000, 40000), 5000},
		{"3", same(2, 10000, 40000), 50000, entered(10000, 5000), 0},
		{"4", same(3, 10000, 40000), 50000, sameBehind(3, 10000, 40000), 5000},
		{"5", same(4, 10000, 40000), 50000, sameBehind(4, 10000, 40000), 5000},
		{"1000000", same(999999, 10000, 40000), 50000, full, 5000},
		{"more", full, 50000, full, 5000},
		{"one above Recover", same(2, 10000, 49999), 50000, entered(10000, 5000), 0},
		{"at Recover", same(2, 10000, 50000), 50000, entered(10000, 5000), 0},
		{"one below Recover", same(2, 10000, 50001), 50000, sameBehind(2, 10000, 50001), 5000},
		{"far below Recover", same(2, 10000, 60000), 50000, sameBehind(2, 10000, 60000), 5000},
		{"one byte under way", same(2, 1, 40000), 50000, entered(1, 2000), 0},
		{"nothing under way", idle, 50000, idle, 2000},
		{"nothing under way at Recover", same(2, 0, 50000), 50000, same(2, 0, 50000), 2000},
	})
}

// Promise 10: a Half that is less than 2 Mss, of an odd Flight, and above MaxWin; windows with 3 Mss that would go above it.
func TestHalvesOfLosses(t *testing.T) {
	for _, c := range []struct{ flight, half, cwnd int }{
		{1, 2000, 5000}, {2000, 2000, 5000}, {3998, 2000, 5000}, {3999, 2000, 5000}, {4000, 2000, 5000}, {4001, 2000, 5000}, {4002, 2001, 5001}, {4003, 2001, 5001},
		{10001, 5000, 8000}, {10002, 5001, 8001},
		{199993998, 99996999, 99999999}, {199993999, 99996999, 99999999}, {199994000, 99997000, 100000000}, {199994002, 99997001, 100000000},
		{199999998, 99999999, 100000000}, {199999999, 99999999, 100000000}, {200000000, 100000000, 100000000}, {200000001, 100000000, 100000000}, {200000002, 100000000, 100000000}, {mostTime - 50000, 100000000, 100000000},
	} {
		want := entered(c.flight, c.half)
		want.Cwnd = c.cwnd
		checkAcks(t, []ackCase{{"a loss", same(2, c.flight, 40000), 50000, want, 0}})
		if t.Failed() {
			t.Fatal("a Flight of", c.flight)
		}
	}
	least := impl.Reno{Mss: 1, Cwnd: 1, Thresh: 2, Next: 1, Dups: 2}
	most := impl.Reno{Mss: 10000, Cwnd: 10000, Thresh: 20000, Next: 1, Dups: 2}
	checkAcks(t, []ackCase{
		{"the least Mss", least, 0, impl.Reno{Mss: 1, Cwnd: 5, Thresh: 2, Next: 1, Dups: 3, Recover: 1, In: true}, 0},
		{"the greatest Mss", most, 0, impl.Reno{Mss: 10000, Cwnd: 50000, Thresh: 20000, Next: 1, Dups: 3, Recover: 1, In: true}, 0},
	})
}

// mending is In, from 50000 to this Recover.
func mending(cwnd, back int) impl.Reno {
	r := recoveringSender()
	r.Cwnd, r.Recover = cwnd, back
	return r
}

// mended is what mending has become, with no Dups.
func mended(cwnd, back, ack int, in bool) impl.Reno {
	r := mending(cwnd, back)
	r.Una, r.Dups, r.In = ack, 0, in
	return r
}

// Promise 10: In, the same ack again: Cwnd is Mss more, up to MaxWin; an echo does nothing.
func TestAcksThatComeAgainInRecovery(t *testing.T) {
	list := []ackCase{}
	for _, c := range []struct{ cwnd, dups, want, count int }{
		{12000, 4, 13000, 5}, {1000, 0, 2000, 1}, {12000, 2, 13000, 3}, {12000, 999999, 13000, 1000000}, {12000, 1000000, 13000, 1000000},
		{99998999, 4, 99999999, 5}, {99999000, 4, 100000000, 5}, {99999001, 4, 100000000, 5}, {100000000, 4, 100000000, 5},
	} {
		r, want := mending(c.cwnd, 58000), mending(c.want, 58000)
		r.Dups, want.Dups = c.dups, c.count
		list = append(list, ackCase{"again", r, 50000, want, 0})
	}
	for _, back := range []int{50001, 60000} {
		want := mending(13000, back)
		want.Dups = 5
		list = append(list, ackCase{"again, at another Recover", mending(12000, back), 50000, want, 0})
	}
	checkAcks(t, list)
}

// Promise 10: a partial ack of fewer bytes than Mss, of just Mss and of more, and of more than Cwnd; an echo does nothing.
func TestPartialAcks(t *testing.T) {
	checkAcks(t, []ackCase{
		{"1 byte", mending(12000, 58000), 50001, mended(11999, 58000, 50001, true), 0},
		{"Mss less one", mending(12000, 58000), 50999, mended(11001, 58000, 50999, true), 0},
		{"Mss", mending(12000, 58000), 51000, mended(12000, 58000, 51000, true), 0},
		{"Mss and one", mending(12000, 58000), 51001, mended(11999, 58000, 51001, true), 0},
		{"more", mending(12000, 58000), 55000, mended(8000, 58000, 55000, true), 0},
		{"Recover less one", mending(12000, 58000), 57999, mended(5001, 58000, 57999, true), 0},
		{"down to one above Mss", mending(6001, 58000), 55000, mended(2001, 58000, 55000, true), 0},
		{"down to Mss", mending(6000, 58000), 55000, mended(2000, 58000, 55000, true), 0},
		{"not below Mss", mending(5999, 58000), 55000, mended(2000, 58000, 55000, true), 0},
		{"Cwnd", mending(5000, 58000), 55000, mended(2000, 58000, 55000, true), 0},
		{"more than Cwnd", mending(4999, 58000), 55000, mended(2000, 58000, 55000, true), 0},
		{"far more than Cwnd", mending(1000, 58000), 57000, mended(2000, 58000, 57000, true), 0},
		{"few bytes, not below Mss", mending(1500, 58000), 50700, mended(1000, 58000, 50700, true), 0},
		{"few bytes of the least window", mending(1000, 58000), 50001, mended(1000, 58000, 50001, true), 0},
		{"Mss of the least window", mending(1000, 58000), 51000, mended(2000, 58000, 51000, true), 0},
		{"Mss of the widest window", mending(100000000, 58000), 51000, mended(100000000, 58000, 51000, true), 0},
		{"more of the widest window", mending(100000000, 58000), 51001, mended(99999999, 58000, 51001, true), 0},
	})
}

// left is In at 50000, with a Recover there is so much behind.
func left(thresh, behind int) (impl.Reno, impl.Reno) {
	r := mending(12000, 58000)
	r.Thresh, r.Next = thresh, 58000+behind
	after := mended(12000, 58000, 58000, false)
	after.Thresh, after.Next = thresh, r.Next
	return r, after
}

// Promise 10: acks at Recover, one above it, and at Next; the window goes by what is under way behind it, and by Thresh.
func TestFullAcks(t *testing.T) {
	var list []ackCase
	for _, c := range []struct{ thresh, behind, cwnd, half int }{
		{5000, 0, 2000, 4000}, {5000, 1, 2000, 4000}, {5000, 999, 2000, 4499}, {5000, 1000, 2000, 4500}, {5000, 1001, 2001, 4500}, {5000, 2000, 3000, 5000},
		{5000, 3999, 4999, 5999}, {5000, 4000, 5000, 6000}, {5000, 4001, 5000, 6000}, {5000, 90000, 5000, 49000},
		{2000, 0, 2000, 4000}, {2000, 1000, 2000, 4500}, {2000, 1001, 2000, 4500}, {2001, 1001, 2001, 4500}, {2001, 1002, 2001, 4501},
		{100000000, 300000000, 100000000, 100000000}, {100000000, 99999000, 100000000, 50003500}, {100000000, 99998999, 99999999, 50003499}, {100000000, 99999001, 100000000, 50003500},
	} {
		r, after := left(c.thresh, c.behind)
		after.Cwnd = c.cwnd
		list = append(list, ackCase{"at Recover", r, 58000, after, c.half})
	}
	checkAcks(t, append(list,
		ackCase{"one above Recover", mending(12000, 58000), 58001, mended(2999, 58000, 58001, false), 5000},
		ackCase{"one below Next", mending(12000, 58000), 59999, mended(2000, 58000, 59999, false), 5000},
		ackCase{"at Next", mending(12000, 58000), 60000, mended(2000, 58000, 60000, false), 5000},
		ackCase{"at a Recover one above Una", mending(12000, 50001), 50001, mended(5000, 50001, 50001, false), 5000},
		ackCase{"from a narrow window", mending(1000, 58000), 58000, mended(3000, 58000, 58000, false), 5000},
		ackCase{"at a Recover that is Next", mending(12000, 60000), 60000, mended(2000, 60000, 60000, false), 5000}))
}

// What was counted for the next growth stays through a recovery: the chapter names Acked only where it begins.
func TestAckedInRecovery(t *testing.T) {
	r := mending(12000, 58000)
	r.Acked = 700
	for _, ack := range []int{50000, 50001, 55000, 58000, 60000} {
		if got := checkAcked(t, r, ack, false); got.Acked != 700 {
			t.Errorf("an ack of %d: Acked is %d", ack, got.Acked)
		}
	}
}

// Promise 10: the whole way of a loss: three acks again, one more, a partial ack, a full one.
func TestRecoveryByHand(t *testing.T) {
	r, _ := impl.RenoNew(100)
	for range 10 {
		r = checkSent(t, r, 100)
	}
	for i, c := range []struct {
		ack, send, cwnd, thresh, dups int
		in                            bool
	}{
		{200, 0, 1100, mostWindow, 0, false}, {200, 0, 1100, mostWindow, 1, false}, {200, 0, 1100, mostWindow, 2, false},
		{200, 0, 700, 400, 3, true}, {200, 0, 800, 400, 4, true}, {200, 100, 900, 400, 5, true},
		{500, 100, 700, 400, 0, true}, {500, 100, 800, 400, 1, true}, {1000, 0, 400, 400, 0, false}, {1300, 0, 400, 400, 0, false},
	} {
		r = checkAcked(t, r, c.ack, false)
		if r.Cwnd != c.cwnd || r.Thresh != c.thresh || r.Dups != c.dups || r.In != c.in {
			t.Fatalf("step %d: %+v", i, r)
		}
		if c.send > 0 {
			r = checkSent(t, r, c.send)
		}
	}
	if r.Recover != 1000 || r.Acked != 300 || r.Next != 1300 {
		t.Errorf("behind all: %+v", r)
	}
}
