package tests

import (
	"slices"
	"testing"

	"loop.example/g00453/impl"
)

// roomyNumbers has these with room behind them, which is filled with numbers that would do.
func roomyNumbers(list []int) []int {
	return append(slices.Clone(list), 12, 13, 14, 12, 13, 14)[:len(list)]
}

// roomyFair has spare room behind all lists, filled with what might be taken for theirs.
func roomyFair(f impl.Fair) impl.Fair {
	f = cloned(f)
	f.New, f.Old = roomyNumbers(f.New), roomyNumbers(f.Old)
	for number := range f.Lines {
		f.Lines[number].Pkts = spare(impl.Fifo{Pkts: f.Lines[number].Pkts}).Pkts
	}
	count := len(f.Lines)
	f.Lines = append(f.Lines, impl.Line{Short: 7000}, impl.Line{Short: 7001})[:count]
	return f
}

func checkRoomyFair(t *testing.T, f impl.Fair, was impl.Fair, name string) {
	t.Helper()
	if !sameFair(f, was) {
		t.Errorf("%s: written into the argument: %v", name, f)
	}
	for _, list := range [][]int{f.New, f.Old} {
		if room := list[:cap(list)][len(list):]; !slices.Equal(room[:6], []int{12, 13, 14, 12, 13, 14}) {
			t.Errorf("%s: written behind a list: %v", name, room)
		}
	}
	for number, line := range f.Lines {
		checkSpare(t, impl.Fifo{Pkts: line.Pkts}, impl.Fifo{Pkts: was.Lines[number].Pkts}, name)
	}
	if room := f.Lines[:cap(f.Lines)][len(f.Lines):]; room[0].Short != 7000 || room[1].Short != 7001 || room[0].Pkts != nil || room[1].Pkts != nil {
		t.Errorf("%s: written behind the lines: %v", name, room)
	}
}

// checkApart fills each list of an answer, with all the room behind it, with a number of its own; each must have its own then.
func checkApart(t *testing.T, f impl.Fair, drops []impl.Pkt, name string) {
	t.Helper()
	queues := [][]impl.Pkt{drops[:cap(drops)]}
	for _, line := range f.Lines {
		queues = append(queues, line.Pkts[:cap(line.Pkts)])
	}
	numbers := [][]int{f.New[:cap(f.New)], f.Old[:cap(f.Old)]}
	for i, list := range queues {
		for k := range list {
			if list[k].Id >= 7000 {
				t.Errorf("%s: spare room is handed out: %v", name, list)
			}
			list[k].Id = -1 - i
		}
	}
	for i, list := range numbers {
		for k := range list {
			list[k] = -1 - i
		}
	}
	for i, list := range queues {
		if slices.ContainsFunc(list, func(p impl.Pkt) bool { return p.Id != -1-i }) {
			t.Errorf("%s: two lists of packets share memory", name)
		}
	}
	for i, list := range numbers {
		if slices.ContainsFunc(list, func(number int) bool { return number != -1-i }) {
			t.Errorf("%s: New and Old share memory", name)
		}
	}
	whole := f.Lines[:cap(f.Lines)]
	for number := range whole {
		whole[number] = impl.Line{Short: -5}
	}
}

// Answers share nothing with arguments or with each other, and nothing is written into these or behind them.
func TestLinesAreNewMemory(t *testing.T) {
	d := newDice()
	for range 3000 {
		was := anyFair(d, 1000)
		f := roomyFair(was)
		p := impl.Pkt{Id: d.one(500, 100), Flow: d.below(16), Size: 1 + d.below(2000), At: 990 + d.below(20)}
		for _, one := range []impl.Pkt{p, {}} {
			want, lost, _ := impl.FairPush(was, one)
			got, drops, _ := impl.FairPush(f, one)
			if !sameFair(got, want) || !slices.Equal(drops, lost) {
				t.Errorf("what lies behind the length was read: %v, %v", got, drops)
			}
			checkApart(t, got, drops, "FairPush")
			checkRoomyFair(t, f, was, "FairPush")
		}
		for _, now := range []int{1000, -1} {
			want, got := turnOf(was, now), turnOf(f, now)
			if !got.same(want) {
				t.Errorf("what lies behind the length was read: %v, want %v", got, want)
			}
			checkApart(t, got.fair, got.drops, "FairPop")
			checkRoomyFair(t, f, was, "FairPop")
		}
		checkFair(t, f, "with room behind it")
		checkRoomyFair(t, f, was, "asking")
		if t.Failed() {
			t.FailNow()
		}
	}
	f, _ := impl.FairNew(1514, 20, 5, 100)
	checkApart(t, f, nil, "FairNew")
	if again, ok := impl.FairNew(1514, 20, 5, 100); !ok || !sameFair(again, emptyFair(1514, 20)) {
		t.Error("two answers share memory:", again)
	}
}

// A list that is empty and one that is nil are the same.
func TestEmptyListsAreNil(t *testing.T) {
	f := emptyFair(1514, 20)
	g := cloned(f)
	g.New, g.Old = []int{}, []int{}
	for number := range g.Lines {
		g.Lines[number].Pkts = []impl.Pkt{}
	}
	checkFair(t, f, "nil")
	checkFair(t, g, "empty")
	if !turnOf(f, 9).same(turnOf(g, 9)) {
		t.Error("FairPop tells them apart")
	}
	a, _, _ := checkPushed(t, f, onePacket(3))
	b, _, _ := checkPushed(t, g, onePacket(3))
	if !sameFair(a, b) {
		t.Error("FairPush tells them apart")
	}
}

// No function keeps anything: answers are the same whatever was asked ahead.
func TestLinesKeepNothing(t *testing.T) {
	d := newDice()
	var list []impl.Fair
	var first []turn
	for range 1000 {
		list = append(list, anyFair(d, 1000))
		first = append(first, turnOf(list[len(list)-1], 1000))
	}
	for i := len(list) - 1; i >= 0; i-- {
		impl.FairPush(ordinaryFair(), onePacket(i%16))
		turnOf(impl.Fair{}, i)
		if got := turnOf(list[i], 1000); !got.same(first[i]) {
			t.Fatalf("FairPop was %v, is %v", first[i], got)
		}
	}
}
