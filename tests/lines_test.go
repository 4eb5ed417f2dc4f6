package tests

import (
	"math"
	"slices"
	"testing"

	"loop.example/g00453/impl"
)

// emptyFair has lines without packets, in no list.
func emptyFair(quantum int, limit int) impl.Fair {
	f := impl.Fair{Quantum: quantum, Limit: limit, Lines: make([]impl.Line, 16)}
	for number := range f.Lines {
		f.Lines[number].Codel = impl.Codel{Target: 5, Interval: 100}
	}
	return f
}

// fairOf has these packets in the lines of their flows; the lists are the caller's.
func fairOf(quantum int, limit int, fresh []int, old []int, pkts ...impl.Pkt) impl.Fair {
	f := emptyFair(quantum, limit)
	f.New, f.Old = fresh, old
	for _, p := range pkts {
		line := &f.Lines[p.Flow]
		line.Pkts = append(line.Pkts, p)
	}
	return f
}

// ordinaryFair has lines of both lists, an empty one among them, and room for two more packets.
func ordinaryFair() impl.Fair {
	f := fairOf(1500, 8, []int{3, 7}, []int{15, 0, 4},
		impl.Pkt{Id: 1, Flow: 3, Size: 700, At: 10}, impl.Pkt{Id: 2, Flow: 3, Size: 300, At: 20, Ecn: 1},
		impl.Pkt{Id: 3, Flow: 7, Size: 2000, At: 15},
		impl.Pkt{Id: 4, Flow: 15, Host: 3, Size: 40, At: 5}, impl.Pkt{Id: 5, Flow: 15, Size: 60, At: 5},
		impl.Pkt{Id: 6, Flow: 0, Size: 100, At: 30})
	f.Lines[3].Short, f.Lines[7].Short, f.Lines[15].Short, f.Lines[0].Short, f.Lines[4].Short = 800, 1500, 20, -100, 1
	return f
}

func cloned(f impl.Fair) impl.Fair {
	f.New, f.Old, f.Lines = slices.Clone(f.New), slices.Clone(f.Old), slices.Clone(f.Lines)
	for number := range f.Lines {
		f.Lines[number].Pkts = slices.Clone(f.Lines[number].Pkts)
	}
	return f
}

func sameLine(a, b impl.Line) bool {
	return a.Short == b.Short && a.Codel == b.Codel && slices.Equal(a.Pkts, b.Pkts)
}

func sameFair(a, b impl.Fair) bool {
	return a.Quantum == b.Quantum && a.Limit == b.Limit && slices.Equal(a.New, b.New) && slices.Equal(a.Old, b.Old) && slices.EqualFunc(a.Lines, b.Lines, sameLine)
}

func isZeroFair(f impl.Fair) bool {
	return sameFair(f, impl.Fair{})
}

// linesOk is FairOk by another road: how often each number is listed is counted.
func linesOk(f impl.Fair) bool {
	if f.Quantum < 1 || f.Quantum > 10000 || f.Limit < 1 || f.Limit > 40 || len(f.Lines) != 16 {
		return false
	}
	times := map[int]int{}
	for _, number := range slices.Concat(f.New, f.Old) {
		if times[number]++; number < 0 || number > 15 || times[number] > 1 {
			return false
		}
	}
	all := 0
	for number, line := range f.Lines {
		all += len(line.Pkts)
		c := line.Codel
		ends := []int{c.Target - 1, c.Interval - c.Target, 1000000000 - c.Interval, c.First, 2000000000000 - c.First, c.Next, 2000000000000 - c.Next, c.Count, 1073741824 - c.Count, c.Last, 1073741824 - c.Last, line.Short + 2000, 12000 - line.Short}
		other := func(p impl.Pkt) bool { return p.Flow != number }
		if slices.Min(ends) < 0 || !queueOk(impl.Fifo{Pkts: line.Pkts, Limit: 40}) || slices.ContainsFunc(line.Pkts, other) || len(line.Pkts) > 0 && times[number] == 0 {
			return false
		}
	}
	return all <= f.Limit
}

// fatness is how many bytes each line has.
func fatness(f impl.Fair) []int {
	bytes := make([]int, 16)
	for _, line := range f.Lines {
		for _, p := range line.Pkts {
			bytes[p.Flow] += p.Size
		}
	}
	return bytes
}

func crowd(f impl.Fair) int {
	count := 0
	for _, line := range f.Lines {
		count += len(line.Pkts)
	}
	return count
}

func checkFair(t *testing.T, f impl.Fair, name string) {
	t.Helper()
	if !impl.FairOk(f) || !linesOk(f) {
		t.Errorf("%s: it is not FairOk: %v", name, f)
	}
	if got := impl.FairCount(f); got != crowd(f) {
		t.Errorf("%s: FairCount answers %d: %v", name, got, f)
	}
	bytes := fatness(f)
	fattest := slices.Index(bytes, slices.Max(bytes))
	if crowd(f) == 0 {
		fattest = -1
	}
	if got := impl.Fattest(f); got != fattest {
		t.Errorf("%s: Fattest answers %d, want %d: %v", name, got, fattest, f)
	}
}

func checkNoPush(t *testing.T, f impl.Fair, p impl.Pkt, name string) {
	t.Helper()
	if got, drops, ok := impl.FairPush(f, p); ok || len(drops) != 0 || !isZeroFair(got) {
		t.Errorf("%s: FairPush of %v answers %v, %v, %v", name, p, got, drops, ok)
	}
}

func checkNoTurn(t *testing.T, f impl.Fair, now int, name string) {
	t.Helper()
	if got, drops, p, ok := impl.FairPop(f, now); ok || len(drops) != 0 || p != (impl.Pkt{}) || !isZeroFair(got) {
		t.Errorf("%s: FairPop at %d answers %v, %v, %v, %v", name, now, got, drops, p, ok)
	}
}

// checkNoFair asks all that go by FairOk for their fixed answers.
func checkNoFair(t *testing.T, f impl.Fair, name string) {
	t.Helper()
	if impl.FairOk(f) || linesOk(f) {
		t.Errorf("%s: it is FairOk: %v", name, f)
	}
	for _, p := range []impl.Pkt{{Id: 1000, Flow: 3, Size: 1, At: impl.MaxTime}, {Id: 1, Flow: 3, Size: 1}, {}} {
		checkNoPush(t, f, p, name)
	}
	for _, now := range []int{impl.MaxTime, 100, 0, -1} {
		checkNoTurn(t, f, now, name)
	}
	if count, fattest := impl.FairCount(f), impl.Fattest(f); count != 0 || fattest != -1 {
		t.Errorf("%s: FairCount and Fattest answer %d, %d", name, count, fattest)
	}
}

type fairCase struct {
	name   string
	want   bool
	change func(f *impl.Fair)
}

func checkCases(t *testing.T, list []fairCase) {
	t.Helper()
	for _, c := range list {
		f := ordinaryFair()
		c.change(&f)
		if c.want {
			checkFair(t, f, c.name)
		} else {
			checkNoFair(t, f, c.name)
		}
	}
}

func TestFairConstants(t *testing.T) {
	if impl.Flows != 16 {
		t.Error(impl.Flows)
	}
}

func TestOrdinaryLines(t *testing.T) {
	checkFair(t, ordinaryFair(), "ordinary")
	checkFair(t, emptyFair(1500, 8), "empty")
	checkNoFair(t, impl.Fair{}, "zero value")
	checkNoFair(t, impl.Fair{Quantum: 1, Limit: 1}, "no lines")
	checkNoFair(t, impl.Fair{Quantum: 1, Limit: 1, Lines: make([]impl.Line, 16)}, "lines of zeros")
}

// Promise 8: Quantum at 1 and at 10000, Limit at 1 and at MaxPkts, one below and one above.
func TestQuantaAndLimits(t *testing.T) {
	for _, v := range []int{1, 2, 1514, 9999, 10000} {
		checkCases(t, []fairCase{{"Quantum", true, func(f *impl.Fair) { f.Quantum = v }}})
		checkFair(t, emptyFair(v, 1), "Quantum")
	}
	for _, v := range append(wrongNumbers(10000), 0) {
		checkCases(t, []fairCase{{"Quantum", false, func(f *impl.Fair) { f.Quantum = v }}})
		checkNoFair(t, emptyFair(v, 1), "Quantum")
	}
	for _, v := range []int{1, 2, 39, 40} {
		checkFair(t, emptyFair(1, v), "Limit")
	}
	for _, v := range append(wrongNumbers(40), 0) {
		checkCases(t, []fairCase{{"Limit", false, func(f *impl.Fair) { f.Limit = v }}})
		checkNoFair(t, emptyFair(1, v), "Limit")
	}
}

// Promise 8: Flows lines, one fewer and one more.
func TestFlowsLines(t *testing.T) {
	empty := impl.Line{Codel: impl.Codel{Target: 5, Interval: 100}}
	for count := range 40 {
		f := impl.Fair{Quantum: 1500, Limit: 8, Lines: slices.Repeat([]impl.Line{empty}, count)}
		if count == 16 {
			checkFair(t, f, "Flows lines")
		} else {
			checkNoFair(t, f, "not Flows lines")
		}
	}
	checkCases(t, []fairCase{
		{"one more", false, func(f *impl.Fair) { f.Lines = append(f.Lines, empty) }},
		{"one fewer", false, func(f *impl.Fair) { f.Lines = f.Lines[:15] }},
		{"a first one more", false, func(f *impl.Fair) { f.Lines = append([]impl.Line{empty}, f.Lines...) }},
		{"none", false, func(f *impl.Fair) { f.Lines = nil }},
		{"very many", false, func(f *impl.Fair) { f.Lines = slices.Repeat([]impl.Line{empty}, 100000) }},
	})
}

// Promise 8: just Limit packets in all, and one more, in one line and in several.
func TestAsManyAsLimitInAll(t *testing.T) {
	for limit := 1; limit <= 40; limit++ {
		for _, flows := range []int{1, 2, 7, 16} {
			f := emptyFair(1500, limit)
			for flow := range flows {
				f.Old = append(f.Old, flow)
			}
			for i := range limit + 1 {
				line := &f.Lines[i%flows]
				line.Pkts = append(line.Pkts, impl.Pkt{Id: i, Flow: i % flows, Size: 100 + i, At: i})
				if i < limit {
					checkFair(t, f, "at most Limit")
				} else {
					checkNoFair(t, f, "one more than Limit")
				}
			}
		}
	}
	f := emptyFair(1500, 40)
	f.Old = []int{9}
	f.Lines[9].Pkts = make([]impl.Pkt, 100000)
	checkNoFair(t, f, "very many")
}

// Promise 8: numbers of New and Old at 0, at Flows - 1, one below and one above; none twice.
func TestListedNumbers(t *testing.T) {
	for number := range 16 {
		f := emptyFair(1, 1)
		f.New = []int{number}
		checkFair(t, f, "an empty line of New")
		f.New, f.Old = nil, []int{number}
		checkFair(t, f, "an empty line of Old")
		f.New = []int{number}
		checkNoFair(t, f, "in both")
		f.New, f.Old = []int{number, number}, nil
		checkNoFair(t, f, "twice in New")
		f.New, f.Old = nil, []int{number, number}
		checkNoFair(t, f, "twice in Old")
		f.New, f.Old = []int{number, (number + 1) % 16}, []int{(number + 2) % 16, number}
		checkNoFair(t, f, "in both, with others between")
	}
	for _, number := range append(wrongNumbers(15), 16) {
		f := emptyFair(1, 1)
		f.New = []int{number}
		checkNoFair(t, f, "no number in New")
		f.New, f.Old = nil, []int{3, number}
		checkNoFair(t, f, "no number in Old")
		checkCases(t, []fairCase{
			{"no number in New", false, func(f *impl.Fair) { f.New = append(f.New, number) }},
			{"no number in Old", false, func(f *impl.Fair) { f.Old = append(f.Old, number) }},
		})
	}
	all := []int{15, 0, 14, 1, 13, 2, 12, 3, 11, 4, 10, 5, 9, 6, 8, 7}
	for cut := range 17 {
		f := emptyFair(1, 1)
		f.New, f.Old = all[:cut], all[cut:]
		checkFair(t, f, "all are listed")
		f.Old = append(slices.Clone(f.Old), 9)
		checkNoFair(t, f, "all, and one more")
	}
	f := emptyFair(1, 1)
	f.Old = make([]int, 100000)
	checkNoFair(t, f, "very many")
}

// Promise 8: a line with packets that is in no list, an empty line that is in one.
func TestLinesWithPacketsAreListed(t *testing.T) {
	for number := range 16 {
		p := impl.Pkt{Id: 1, Flow: number, Size: 1}
		checkFair(t, fairOf(1, 1, []int{number}, nil, p), "in New")
		checkFair(t, fairOf(1, 1, nil, []int{number}, p), "in Old")
		checkNoFair(t, fairOf(1, 1, nil, nil, p), "in no list")
		checkNoFair(t, fairOf(1, 1, []int{(number + 1) % 16}, []int{(number + 2) % 16}, p), "others are listed")
	}
	checkCases(t, []fairCase{
		{"3 is in no list", false, func(f *impl.Fair) { f.New = []int{7} }},
		{"3 is in Old", true, func(f *impl.Fair) { f.New, f.Old = []int{7}, []int{15, 3, 0, 4} }},
		{"4, which is empty, is in no list", true, func(f *impl.Fair) { f.Old = []int{15, 0} }},
		{"0 is in no list", false, func(f *impl.Fair) { f.Old = []int{15, 4} }},
		{"empty lists", false, func(f *impl.Fair) { f.New, f.Old = []int{}, []int{} }},
	})
}

// Promise 8: Short at -MaxSize and at 10000 + MaxSize, one below and one above, in lines with packets and without.
func TestShorts(t *testing.T) {
	for number := range 16 {
		for _, v := range []int{-2000, -1999, -1, 0, 1, 10000, 10001, 11999, 12000} {
			checkCases(t, []fairCase{{"Short", true, func(f *impl.Fair) { f.Lines[number].Short = v }}})
		}
		for _, v := range []int{-2001, -2002, 12001, 12002, 1 << 32, 1 << 48, math.MaxInt, math.MinInt} {
			checkCases(t, []fairCase{{"Short", false, func(f *impl.Fair) { f.Lines[number].Short = v }}})
		}
	}
}

// Promise 8: a line whose Codel is not CodelOk, with packets and without.
func TestLinesHaveCodels(t *testing.T) {
	for _, wrong := range wrongCodels() {
		for _, number := range []int{0, 3, 4, 9, 15} {
			checkCases(t, []fairCase{{"no Codel", false, func(f *impl.Fair) { f.Lines[number].Codel = wrong }}})
		}
	}
	for _, c := range codelFields() {
		for _, v := range []int{c.least, c.most} {
			codel := ordinaryCodel()
			*c.of(&codel) = v
			checkCases(t, []fairCase{{"a Codel of its own", true, func(f *impl.Fair) { f.Lines[7].Codel, f.Lines[4].Codel = codel, codel }}})
		}
	}
}

// Promise 8: a line whose packets are not FifoOk, or are of another Flow.
func TestLinesAreQueuesOfOneFlow(t *testing.T) {
	for _, number := range []int{0, 3, 7, 15} {
		for _, c := range packetFields() {
			for _, v := range []int{c.least - 1, c.most + 1, math.MaxInt, math.MinInt} {
				checkCases(t, []fairCase{
					{c.name + " of a first one", false, func(f *impl.Fair) { *c.of(&f.Lines[number].Pkts[0]) = v }},
					{c.name + " of a last one", false, func(f *impl.Fair) { *c.of(&f.Lines[number].Pkts[len(f.Lines[number].Pkts)-1]) = v }},
				})
			}
		}
		for flow := range 16 {
			checkCases(t, []fairCase{
				{"Flow of a first one", flow == number, func(f *impl.Fair) { f.Lines[number].Pkts[0].Flow = flow }},
				{"Flow of a last one", flow == number, func(f *impl.Fair) { f.Lines[number].Pkts[len(f.Lines[number].Pkts)-1].Flow = flow }},
			})
		}
	}
	checkCases(t, []fairCase{
		{"an At as that ahead", true, func(f *impl.Fair) { f.Lines[3].Pkts[1].At = 10 }},
		{"an At below that ahead", false, func(f *impl.Fair) { f.Lines[3].Pkts[1].At = 9 }},
		{"one Id twice in a line", false, func(f *impl.Fair) { f.Lines[15].Pkts[1].Id = 4 }},
		{"one Id in two lines", true, func(f *impl.Fair) { f.Lines[15].Pkts[1].Id = 1 }},
		{"one packet in two lines", false, func(f *impl.Fair) { f.Lines[4].Pkts = f.Lines[15].Pkts }},
	})
}

// Promise 8: empty lines with these, or the zero value where that is not FairOk.
func TestNewLines(t *testing.T) {
	for _, c := range []struct {
		quantum, limit, target, interval int
		want                             bool
	}{
		{1514, 20, 5000000, 100000000, true}, {1, 1, 1, 1, true}, {10000, 40, 1000000000, 1000000000, true}, {10000, 1, 1, 1000000000, true}, {1, 40, 7, 7, true},
		{0, 20, 5, 100, false}, {-1, 20, 5, 100, false}, {10001, 20, 5, 100, false}, {math.MaxInt, 20, 5, 100, false}, {math.MinInt, 20, 5, 100, false},
		{1514, 0, 5, 100, false}, {1514, -1, 5, 100, false}, {1514, 41, 5, 100, false}, {1514, math.MaxInt, 5, 100, false}, {1514, math.MinInt, 5, 100, false},
		{1514, 20, 0, 100, false}, {1514, 20, -1, 100, false}, {1514, 20, 100, 99, false}, {1514, 20, math.MinInt, 100, false}, {1514, 20, math.MaxInt, math.MaxInt, false},
		{1514, 20, 5, 1000000001, false}, {1514, 20, 5, 0, false}, {1514, 20, 5, math.MinInt, false}, {0, 0, 0, 0, false},
	} {
		want := impl.Fair{}
		if c.want {
			want = emptyFair(c.quantum, c.limit)
			for number := range want.Lines {
				want.Lines[number].Codel = impl.Codel{Target: c.target, Interval: c.interval}
			}
			checkFair(t, want, "new")
		}
		if got, ok := impl.FairNew(c.quantum, c.limit, c.target, c.interval); ok != c.want || !sameFair(got, want) {
			t.Errorf("FairNew(%d, %d, %d, %d) = %v, %v", c.quantum, c.limit, c.target, c.interval, got, ok)
		}
	}
}

func TestFattestByHand(t *testing.T) {
	f := ordinaryFair()
	if count, fattest := impl.FairCount(f), impl.Fattest(f); count != 6 || fattest != 7 {
		t.Error("ordinary:", count, fattest)
	}
	f.Lines[7].Pkts[0].Size = 1001
	if got := impl.Fattest(f); got != 7 {
		t.Error("one more byte than 3:", got)
	}
	f.Lines[7].Pkts[0].Size = 1000
	if got := impl.Fattest(f); got != 3 {
		t.Error("of two alike the first:", got)
	}
	f.New = []int{7, 3}
	if got := impl.Fattest(f); got != 3 {
		t.Error("the first by its number, not in its list:", got)
	}
	f.Lines[15].Pkts[0].Size = 2000
	if got := impl.Fattest(f); got != 15 {
		t.Error("the last one:", got)
	}
	f.Lines[0].Pkts[0].Size = 1999
	f.Lines[15].Pkts[0].Size = 1939
	if got := impl.Fattest(f); got != 0 {
		t.Error("the first one:", got)
	}
}
