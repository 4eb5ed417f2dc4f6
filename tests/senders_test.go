package tests

import (
	"math"
	"testing"

	"loop.example/g00453/impl"
)

const mostTime = 1000000000000
const mostWindow = 100000000

// ordinarySender has 10000 bytes under way, and may send 2000 more.
func ordinarySender() impl.Reno {
	return impl.Reno{Mss: 1000, Cwnd: 12000, Thresh: 8000, Acked: 3000, Una: 50000, Next: 60000, Dups: 1, Recover: 40000, Cut: 45000}
}

// recoveringSender lost what is at 50000 when 58000 had been sent.
func recoveringSender() impl.Reno {
	return impl.Reno{Mss: 1000, Cwnd: 12000, Thresh: 5000, Una: 50000, Next: 60000, Dups: 4, Recover: 58000, In: true, Cut: 45000}
}

// senderOk is RenoOk by another road.
func senderOk(r impl.Reno) bool {
	for _, c := range [][3]int{{1, r.Mss, 10000}, {0, r.Next, mostTime}, {0, r.Una, r.Next}, {0, r.Recover, r.Next}, {0, r.Cut, r.Next}, {0, r.Acked, mostWindow}, {0, r.Dups, 1000000}} {
		if c[1] < c[0] || c[1] > c[2] {
			return false
		}
	}
	for segments, window := range []int{1: r.Cwnd, 2: r.Thresh} {
		if segments > 0 && (window < segments*r.Mss || window > mostWindow) {
			return false
		}
	}
	return !r.In || r.Una < r.Recover
}

// half is Half, by another road.
func half(r impl.Reno) int {
	x := (r.Next - r.Una) >> 1
	if x > mostWindow {
		return mostWindow
	}
	if x < 2*r.Mss {
		return 2 * r.Mss
	}
	return x
}

// windowsAround has those that a receiver might tell, at the edges of r.
func windowsAround(r impl.Reno) []int {
	flight := r.Next - r.Una
	return []int{0, 1, r.Cwnd - 1, r.Cwnd, r.Cwnd + 1, flight - 1, flight, flight + 1, flight + r.Mss, mostWindow, math.MaxInt - 1, math.MaxInt, -1, -2, math.MinInt}
}

func checkMaySend(t *testing.T, r impl.Reno, window int) {
	t.Helper()
	want, flight := 0, r.Next-r.Una
	if room := r.Cwnd - flight; room > 0 && window > flight {
		want = min(room, window-flight)
	}
	if got := impl.MaySend(r, window); got != want {
		t.Errorf("MaySend(%+v, %d) = %d, want %d", r, window, got, want)
	}
}

// bytesAround has how much might be sent, at the edges of r.
func bytesAround(r impl.Reno) []int {
	room, left := r.Cwnd-(r.Next-r.Una), mostTime-r.Next
	return []int{0, 1, 2, r.Mss - 1, r.Mss, r.Mss + 1, room - 1, room, room + 1, left - 1, left, left + 1, -1, -r.Mss, 10001, mostWindow, mostTime, math.MaxInt, math.MinInt}
}

// checkSent asks the promise itself too: no more is under way then than Cwnd.
func checkSent(t *testing.T, r impl.Reno, bytes int) impl.Reno {
	t.Helper()
	var want impl.Reno
	well := bytes >= 1 && bytes <= r.Mss && r.Next+bytes <= mostTime && r.Next+bytes-r.Una <= r.Cwnd
	if well {
		want = r
		want.Next = r.Next + bytes
	}
	got, ok := impl.Sent(r, bytes)
	if got != want || ok != well {
		t.Errorf("Sent(%+v, %d) = %+v, %v, want %+v, %v", r, bytes, got, ok, want, well)
	}
	if ok && (!impl.RenoOk(got) || impl.Flight(got) > got.Cwnd || impl.Flight(got) != impl.Flight(r)+bytes) {
		t.Errorf("Sent(%+v, %d) = %+v: %d are under way", r, bytes, got, impl.Flight(got))
	}
	return got
}

// checkTimedOut asks the promise itself too: one segment may be sent, and no more.
func checkTimedOut(t *testing.T, r impl.Reno) impl.Reno {
	t.Helper()
	var want impl.Reno
	well := r.Next > r.Una
	if well {
		want = impl.Reno{Mss: r.Mss, Cwnd: r.Mss, Thresh: half(r), Una: r.Una, Next: r.Una, Recover: r.Una, Cut: r.Cut}
		if r.Cut > r.Una {
			want.Cut = r.Una
		}
	}
	got, ok := impl.TimedOut(r)
	if got != want || ok != well {
		t.Errorf("TimedOut(%+v) = %+v, %v, want %+v, %v", r, got, ok, want, well)
	}
	if ok && (!impl.RenoOk(got) || impl.Flight(got) != 0 || impl.MaySend(got, math.MaxInt) != r.Mss) {
		t.Errorf("TimedOut(%+v) = %+v: it may send %d", r, got, impl.MaySend(got, math.MaxInt))
	}
	return got
}

// filled has sent all that it may, in pieces of at most Mss.
func filled(t *testing.T, r impl.Reno, window int, piece func() int) impl.Reno {
	t.Helper()
	for range 10000 {
		room := impl.MaySend(r, window)
		if room == 0 {
			return r
		}
		was := r
		if r = checkSent(t, r, min(room, piece())); !impl.RenoOk(r) {
			t.Fatalf("%+v may send %d, but does not", was, room)
		}
	}
	t.Fatalf("there is no end of sending: %+v", r)
	return r
}

func checkSender(t *testing.T, r impl.Reno, name string) {
	t.Helper()
	if !impl.RenoOk(r) || !senderOk(r) {
		t.Errorf("%s: it is not RenoOk: %+v", name, r)
	}
	if got := impl.Flight(r); got != r.Next-r.Una {
		t.Errorf("%s: Flight of %+v is %d", name, r, got)
	}
	for _, window := range windowsAround(r) {
		checkMaySend(t, r, window)
	}
	for _, bytes := range bytesAround(r) {
		checkSent(t, r, bytes)
	}
	for _, ack := range acksAround(r) {
		checkBothAcked(t, r, ack)
	}
	checkTimedOut(t, r)
}

// checkNoSender asks all that go by RenoOk for their fixed answers.
func checkNoSender(t *testing.T, r impl.Reno, name string) {
	t.Helper()
	if impl.RenoOk(r) || senderOk(r) {
		t.Errorf("%s: it is RenoOk: %+v", name, r)
	}
	if got := impl.Flight(r); got != 0 {
		t.Errorf("%s: Flight of %+v is %d", name, r, got)
	}
	for _, window := range []int{0, 1, r.Cwnd, r.Cwnd + 1, mostWindow, math.MaxInt, -1} {
		if got := impl.MaySend(r, window); got != 0 {
			t.Errorf("%s: MaySend(%+v, %d) = %d", name, r, window, got)
		}
	}
	for _, bytes := range []int{0, 1, r.Mss, -1, 100} {
		if got, ok := impl.Sent(r, bytes); ok || got != (impl.Reno{}) {
			t.Errorf("%s: Sent(%+v, %d) = %+v, %v", name, r, bytes, got, ok)
		}
	}
	for _, ack := range []int{r.Una, r.Next, r.Una - 1, r.Una + 1, r.Next + 1, r.Recover, 0, -1} {
		for _, echo := range []bool{false, true} {
			if got, ok := impl.Acked(r, ack, echo); ok || got != (impl.Reno{}) {
				t.Errorf("%s: Acked(%+v, %d, %v) = %+v, %v", name, r, ack, echo, got, ok)
			}
		}
	}
	if got, ok := impl.TimedOut(r); ok || got != (impl.Reno{}) {
		t.Errorf("%s: TimedOut(%+v) = %+v, %v", name, r, got, ok)
	}
}

// senderCase is one field of a sender all of whose other ones leave it these ends.
type senderCase struct {
	name        string
	r           impl.Reno
	least, most int
	of          func(r *impl.Reno) *int
}

func checkSenders(t *testing.T, list []senderCase) {
	t.Helper()
	for _, c := range list {
		values := []int{c.least - 1, c.least, c.least + 1, c.most - 1, c.most, c.most + 1, c.least - 2, c.most + 2}
		for _, v := range append(values, wrongNumbers(c.most)...) {
			r := c.r
			*c.of(&r) = v
			if v >= c.least && v <= c.most {
				checkSender(t, r, c.name)
			} else {
				checkNoSender(t, r, c.name)
			}
		}
	}
}

// Promise 10: Mss, windows, Acked and Dups at their least, at their most, one below and one above.
func TestSenderNumbers(t *testing.T) {
	mss := func(r *impl.Reno) *int { return &r.Mss }
	cwnd := func(r *impl.Reno) *int { return &r.Cwnd }
	thresh := func(r *impl.Reno) *int { return &r.Thresh }
	acked := func(r *impl.Reno) *int { return &r.Acked }
	dups := func(r *impl.Reno) *int { return &r.Dups }
	wide := impl.Reno{Mss: 1000, Cwnd: 20000, Thresh: mostWindow, Una: 50000, Next: 60000, Recover: 40000, Cut: 55000}
	list := []senderCase{
		{"Mss", wide, 1, 10000, mss},
		{"Mss by Cwnd", impl.Reno{Mss: 1, Cwnd: 700, Thresh: mostWindow}, 1, 700, mss},
		{"Mss by Thresh", impl.Reno{Mss: 1, Cwnd: 20000, Thresh: 1401}, 1, 700, mss},
		{"Mss by the least Thresh", impl.Reno{Mss: 1, Cwnd: 20000, Thresh: 20000}, 1, 10000, mss},
	}
	for _, r := range []impl.Reno{wide, ordinarySender(), recoveringSender()} {
		for _, n := range []int{1, 2, 1000, 10000} {
			r.Mss, r.Cwnd, r.Thresh = n, 30000, 30000
			list = append(list,
				senderCase{"Cwnd", r, n, 100000000, cwnd}, senderCase{"Thresh", r, 2 * n, 100000000, thresh},
				senderCase{"Acked", r, 0, 100000000, acked}, senderCase{"Dups", r, 0, 1000000, dups})
		}
	}
	checkSenders(t, list)
}

// Promise 10: Una, Recover and Cut at 0 and at Next, Next at MaxTime; In with a Recover at Una; each one below and one above.
func TestSenderPlaces(t *testing.T) {
	una := func(r *impl.Reno) *int { return &r.Una }
	next := func(r *impl.Reno) *int { return &r.Next }
	back := func(r *impl.Reno) *int { return &r.Recover }
	cut := func(r *impl.Reno) *int { return &r.Cut }
	plain, _ := impl.RenoNew(1000)
	var list []senderCase
	for _, end := range []int{0, 1, 2, 60000, mostTime - 1, mostTime} {
		r := plain
		r.Next = end
		list = append(list, senderCase{"Una", r, 0, end, una}, senderCase{"Recover", r, 0, end, back}, senderCase{"Cut", r, 0, end, cut})
		r.Una = end
		list = append(list, senderCase{"Recover, nothing under way", r, 0, end, back}, senderCase{"Cut, nothing under way", r, 0, end, cut})
		for _, of := range []func(r *impl.Reno) *int{una, back, cut} {
			r := plain
			*of(&r) = end
			list = append(list, senderCase{"Next", r, end, mostTime, next})
		}
	}
	in := impl.Reno{Mss: 1000, Cwnd: 12000, Thresh: 5000, Una: 50000, Next: 60000, Recover: 55000, In: true}
	first, last := in, in
	first.Una, first.Recover = 0, 1
	last.Una, last.Next, last.Recover = mostTime-1, mostTime, mostTime
	list = append(list,
		senderCase{"Recover of In", in, 50001, 60000, back}, senderCase{"Una of In", in, 0, 54999, una}, senderCase{"Next of In", in, 55000, mostTime, next}, senderCase{"Cut of In", in, 0, 60000, cut},
		senderCase{"the first Recover of In", first, 1, 60000, back}, senderCase{"the first Una of In", first, 0, 0, una},
		senderCase{"the last Recover of In", last, mostTime, mostTime, back}, senderCase{"the last Una of In", last, 0, mostTime - 1, una})
	checkSenders(t, list)
	for _, at := range []int{0, 1, 60000, mostTime} {
		r := plain
		r.Una, r.Next, r.Recover = at, at, at
		checkSender(t, r, "without In")
		r.In = true
		checkNoSender(t, r, "In with nothing under way")
	}
}

// Promise 10: wrong in several places at once, and the zero value.
func TestNoSenders(t *testing.T) {
	for _, r := range []impl.Reno{
		{}, {In: true}, {Mss: 1}, {Mss: 1, Cwnd: 1}, {Mss: 1, Thresh: 2}, {Mss: -1, Cwnd: -1, Thresh: -2},
		{Mss: math.MinInt, Cwnd: math.MinInt, Thresh: 0}, {Mss: math.MaxInt, Cwnd: math.MaxInt, Thresh: -2}, {Mss: 1 << 62, Cwnd: 1 << 62, Thresh: math.MinInt},
		{Mss: 1, Cwnd: 1, Thresh: 2, Una: -5, Next: -5, Recover: -5, Cut: -5}, {Mss: 1, Cwnd: 1, Thresh: 2, Una: math.MinInt, Next: math.MaxInt},
		{Mss: 1, Cwnd: 1, Thresh: 2, Una: mostTime + 1, Next: mostTime + 1, Recover: mostTime + 1, Cut: mostTime + 1},
	} {
		checkNoSender(t, r, "not as it should be")
	}
	checkSender(t, impl.Reno{Mss: 1, Cwnd: 1, Thresh: 2}, "the least one")
	checkSender(t, impl.Reno{Mss: 10000, Cwnd: 100000000, Thresh: 100000000, Acked: 100000000, Una: mostTime, Next: mostTime, Dups: 1000000, Recover: mostTime, Cut: mostTime}, "the greatest one")
	checkSender(t, impl.Reno{Mss: 10000, Cwnd: 100000000, Thresh: 100000000, Acked: 100000000, Next: mostTime, Dups: 1000000, Recover: mostTime, In: true, Cut: mostTime}, "the one with the most under way")
}

// Promise 10: an mss of 1 and of 10000, one below and one above.
func TestNewSenders(t *testing.T) {
	for _, mss := range []int{1, 2, 100, 1460, 9999, 10000} {
		r, ok := impl.RenoNew(mss)
		if !ok || r != (impl.Reno{Mss: mss, Cwnd: 10 * mss, Thresh: 100000000}) {
			t.Errorf("RenoNew(%d) = %+v, %v", mss, r, ok)
		}
		checkSender(t, r, "a new one")
		if impl.Flight(r) != 0 || impl.MaySend(r, math.MaxInt) != 10*mss {
			t.Errorf("RenoNew(%d): %d under way, it may send %d", mss, impl.Flight(r), impl.MaySend(r, math.MaxInt))
		}
	}
	for _, mss := range append(wrongNumbers(10000), 0, 1<<61, 1<<63/10+1, 1<<62+1) {
		if r, ok := impl.RenoNew(mss); ok || r != (impl.Reno{}) {
			t.Errorf("RenoNew(%d) = %+v, %v", mss, r, ok)
		}
	}
}

// Promise 10: windows at 0, at Cwnd and at Flight, one below and one above, by hand.
func TestWindowsByHand(t *testing.T) {
	full, over := ordinarySender(), ordinarySender()
	full.Cwnd, over.Cwnd = 10000, 9999
	one := ordinarySender()
	one.Cwnd = 10001
	idle := ordinarySender()
	idle.Una = 60000
	for _, c := range []struct {
		name         string
		r            impl.Reno
		window, want int
	}{
		{"less than none", ordinarySender(), -1, 0}, {"none", ordinarySender(), 0, 0}, {"one", ordinarySender(), 1, 0},
		{"below Flight", ordinarySender(), 9999, 0}, {"Flight", ordinarySender(), 10000, 0}, {"above Flight", ordinarySender(), 10001, 1},
		{"below Cwnd", ordinarySender(), 11999, 1999}, {"Cwnd", ordinarySender(), 12000, 2000}, {"above Cwnd", ordinarySender(), 12001, 2000}, {"any", ordinarySender(), math.MaxInt, 2000},
		{"full", full, 9999, 0}, {"full", full, 10000, 0}, {"full", full, 10001, 0}, {"full", full, math.MaxInt, 0},
		{"more under way than Cwnd", over, 9998, 0}, {"more under way than Cwnd", over, 9999, 0}, {"more under way than Cwnd", over, math.MaxInt, 0},
		{"room for one", one, 10000, 0}, {"room for one", one, 10001, 1}, {"room for one", one, 10002, 1},
		{"idle", idle, -1, 0}, {"idle", idle, 0, 0}, {"idle", idle, 1, 1}, {"idle", idle, 11999, 11999}, {"idle", idle, 12001, 12000}, {"idle", idle, math.MinInt, 0},
	} {
		if got := impl.MaySend(c.r, c.window); got != c.want {
			t.Errorf("%s: with a window of %d it may send %d, want %d", c.name, c.window, got, c.want)
		}
	}
}

// Promise 10: 0 bytes, 1, Mss and one more; just what MaxTime and Cwnd leave, and one more; by hand.
func TestSendsByHand(t *testing.T) {
	sender := func(cwnd, next int) impl.Reno {
		return impl.Reno{Mss: 1000, Cwnd: cwnd, Thresh: 8000, Acked: 7, Una: next - 10000, Next: next, Dups: 2, Recover: next - 10000, Cut: next - 5}
	}
	for _, c := range []struct {
		name  string
		r     impl.Reno
		bytes int
		well  bool
	}{
		{"none", ordinarySender(), 0, false}, {"less than none", ordinarySender(), -1, false}, {"one", ordinarySender(), 1, true},
		{"Mss less one", ordinarySender(), 999, true}, {"Mss", ordinarySender(), 1000, true}, {"Mss and one", ordinarySender(), 1001, false},
		{"room less one", sender(10500, 60000), 499, true}, {"room", sender(10500, 60000), 500, true}, {"room and one", sender(10500, 60000), 501, false},
		{"room of one", sender(10001, 60000), 1, true}, {"room of one", sender(10001, 60000), 2, false}, {"no room", sender(10000, 60000), 1, false}, {"less than no room", sender(9000, 60000), 1, false},
		{"room of Mss", sender(11000, 60000), 1000, true}, {"room of Mss", sender(10999, 60000), 1000, false},
		{"time less one", sender(20000, mostTime-300), 299, true}, {"time", sender(20000, mostTime-300), 300, true}, {"time and one", sender(20000, mostTime-300), 301, false},
		{"the last one", sender(20000, mostTime-1), 1, true}, {"behind the last one", sender(20000, mostTime), 1, false}, {"none, behind the last one", sender(20000, mostTime), 0, false},
		{"In", recoveringSender(), 1000, true}, {"In, too many", recoveringSender(), 1001, false},
	} {
		got := checkSent(t, c.r, c.bytes)
		want := impl.Reno{}
		if c.well {
			want = c.r
			want.Next += c.bytes
		}
		if got != want {
			t.Errorf("%s: Sent of %d answers %+v", c.name, c.bytes, got)
		}
	}
}

// Promise 10: whoever sends all it may, in pieces of any size, has just Cwnd under way, and may send not one byte more.
func TestNoMoreThanCwndIsSent(t *testing.T) {
	d := newDice()
	for range 300 {
		r, _ := impl.RenoNew(d.one(1, 2, 100, 1460, 10000))
		r.Cwnd = r.Mss + d.below(30*r.Mss)
		window := d.one(math.MaxInt, r.Cwnd, r.Cwnd+1, d.below(r.Cwnd))
		r = filled(t, r, window, func() int { return 1 + d.below(r.Mss) })
		if impl.Flight(r) != min(r.Cwnd, window) {
			t.Fatalf("%d are under way, with a window of %d: %+v", impl.Flight(r), window, r)
		}
		r = filled(t, r, math.MaxInt, func() int { return r.Mss })
		if x, ok := impl.Sent(r, 1); ok || x != (impl.Reno{}) || impl.Flight(r) != r.Cwnd {
			t.Fatalf("%+v sends one more: %+v", r, x)
		}
	}
}

// Promise 10: a Flight of 0 and of 1, halves at their ends, a Cut below Una and above it, by hand.
func TestTimeOutsByHand(t *testing.T) {
	sender := func(flight, cut int) impl.Reno {
		return impl.Reno{Mss: 1000, Cwnd: 12000, Thresh: 8000, Acked: 3000, Una: 50000, Next: 50000 + flight, Dups: 7, Recover: 50000 + flight, In: flight > 0, Cut: cut}
	}
	for _, c := range []struct {
		name        string
		r           impl.Reno
		thresh, cut int
	}{
		{"one under way", sender(1, 0), 2000, 0}, {"two", sender(2, 0), 2000, 0},
		{"below 4 Mss", sender(3999, 0), 2000, 0}, {"4 Mss", sender(4000, 0), 2000, 0}, {"odd", sender(4001, 0), 2000, 0}, {"above 4 Mss", sender(4002, 0), 2001, 0}, {"odd again", sender(10001, 0), 5000, 0},
		{"below twice MaxWin", sender(199999998, 0), 99999999, 0}, {"odd, below twice MaxWin", sender(199999999, 0), 99999999, 0}, {"twice MaxWin", sender(200000000, 0), 100000000, 0},
		{"above twice MaxWin", sender(200000001, 0), 100000000, 0}, {"more above twice MaxWin", sender(200000002, 0), 100000000, 0}, {"all", sender(mostTime-50000, 0), 100000000, 0},
		{"a Cut below Una", sender(10000, 49999), 5000, 49999}, {"a Cut at Una", sender(10000, 50000), 5000, 50000}, {"a Cut above Una", sender(10000, 50001), 5000, 50000}, {"a Cut at Next", sender(10000, 60000), 5000, 50000},
	} {
		got := checkTimedOut(t, c.r)
		want := impl.Reno{Mss: 1000, Cwnd: 1000, Thresh: c.thresh, Una: 50000, Next: 50000, Recover: 50000, Cut: c.cut}
		if got != want {
			t.Errorf("%s: TimedOut answers %+v, want %+v", c.name, got, want)
		}
	}
	for _, cut := range []int{0, 49999, 50000} {
		if got, ok := impl.TimedOut(sender(0, cut)); ok || got != (impl.Reno{}) {
			t.Errorf("nothing is under way: %+v, %v", got, ok)
		}
	}
	least := impl.Reno{Mss: 1, Cwnd: 1, Thresh: 2, Next: 1}
	if got := checkTimedOut(t, least); got != (impl.Reno{Mss: 1, Cwnd: 1, Thresh: 2}) {
		t.Errorf("the least one: %+v", got)
	}
}

// Promise 10: behind a time-out one segment goes, its ack lets two go, and so on up to Thresh.
func TestBeginningAnew(t *testing.T) {
	r := checkTimedOut(t, ordinarySender())
	var windows []int
	for range 7 {
		windows = append(windows, r.Cwnd)
		r = filled(t, r, math.MaxInt, func() int { return 1000 })
		for ack := r.Una + 1000; ack <= r.Next; ack += 1000 {
			r = checkAcked(t, r, ack, false)
		}
	}
	want := []int{1000, 2000, 4000, 5000, 6000, 7000, 8000}
	for i, window := range windows {
		if window != want[i] {
			t.Fatalf("windows are %v, want %v", windows, want)
		}
	}
}
