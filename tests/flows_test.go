package tests

import (
	"bytes"
	"math"
	"testing"

	"loop.example/g00453/impl"
)

func turned(x, by int) int {
	return (x<<by | x>>(32-by)) % round
}

func modulo(x int) int {
	return ((x % round) + round) % round
}

// mixed is the document's stirring, in plain numbers modulo 2^32.
func mixed(a, b, c int) int {
	for range 3 {
		a = modulo(a-c) ^ turned(c, 4)
		c = modulo(c + b)
		b = modulo(b-a) ^ turned(a, 6)
		a = modulo(a + c)
		c = modulo(c-b) ^ turned(b, 8)
		b = modulo(b + a)
	}
	return c
}

func flowNumber(x impl.Tuple, seed int) int {
	return mixed(mixed(x.Src, x.Dst, seed), x.SrcP*65536+x.DstP, x.Proto)
}

func fullTuple() impl.Tuple {
	return impl.Tuple{Proto: 255, Src: round - 1, Dst: round - 1, SrcP: 65535, DstP: 65535}
}

// Promise 3.
func TestFlowOfAFrame(t *testing.T) {
	want := impl.Tuple{Proto: 17, Src: 10<<24 + 1, Dst: 10<<24 + 2, SrcP: 1000, DstP: 80}
	if got, ok := impl.TupleOf(ordinaryFrame()); !ok || got != want {
		t.Error(got, ok)
	}
	if got, ok := impl.TupleOf(fullFrame()); !ok || got != fullTuple() {
		t.Error(got, ok)
	}
	for _, f := range someFrames() {
		want := impl.Tuple{Proto: f.Ip.Proto, Src: f.Ip.Src, Dst: f.Ip.Dst, SrcP: f.SrcP, DstP: f.DstP}
		if got, ok := impl.TupleOf(f); !ok || got != want {
			t.Fatal(f, got, ok)
		}
	}
}

// Promise 3: numbers that were reckoned apart from the program.
func TestFlowHashByHand(t *testing.T) {
	for _, c := range []struct {
		x          impl.Tuple
		seed, want int
	}{
		{impl.Tuple{}, 0, 0},
		{impl.Tuple{}, 1, 2277558437},
		{impl.Tuple{Proto: 1}, 0, 274941957},
		{impl.Tuple{Src: 1}, 0, 916198218},
		{impl.Tuple{Dst: 1}, 0, 3955676360},
		{impl.Tuple{SrcP: 1}, 0, 1152819013},
		{impl.Tuple{DstP: 1}, 0, 2085042497},
		{impl.Tuple{Proto: 17, Src: 10<<24 + 1, Dst: 10<<24 + 2, SrcP: 1000, DstP: 80}, 5, 1386092315},
		{impl.Tuple{Proto: 6, Src: 3232235521, Dst: 3232235719, SrcP: 443, DstP: 50000}, 0, 383262353},
		{fullTuple(), round - 1, 3261080319},
	} {
		if got := impl.FlowHash(c.x, c.seed); got != c.want {
			t.Errorf("FlowHash(%v, %d) = %d, want %d", c.x, c.seed, got, c.want)
		}
	}
}

// Promise 3: a flow's number hangs on the flow and the seed alone.
func TestFlowHashHangsOnFlowAndSeed(t *testing.T) {
	seeds := noise(len(someFrames()))
	for i, f := range someFrames() {
		x, _ := impl.TupleOf(f)
		seed := seeds[i] & (round - 1)
		want := flowNumber(x, seed)
		if got := impl.FlowHash(x, seed); got != want || got < 0 || got >= round {
			t.Fatalf("FlowHash(%v, %d) = %d, want %d", x, seed, got, want)
		}
		f.Ip.Dscp, f.Ip.Ecn, f.Ip.Id, f.Ip.Ttl, f.Data = 1, 1, 1, 1, []byte{1}
		y, ok := impl.TupleOf(f)
		if got := impl.FlowHash(y, seed); !ok || got != want {
			t.Fatal("it hangs on more than the flow:", f, got, want)
		}
	}
}

// Promise 3: fields that have not their bits, and seeds that have not 32.
func TestFlowHashOfNoFlow(t *testing.T) {
	wrong := []int{-1, round, round + 1, 1 << 62, math.MaxInt, math.MinInt}
	for _, seed := range wrong {
		for _, x := range []impl.Tuple{{}, fullTuple()} {
			if got := impl.FlowHash(x, seed); got != -1 {
				t.Errorf("seed %d: %d", seed, got)
			}
		}
	}
	for _, c := range flowFields() {
		most := 1<<c.count - 1
		for _, v := range append([]int{most + 1, -most}, wrong...) {
			f := ordinaryFrame()
			c.set(&f, v)
			x := impl.Tuple{Proto: f.Ip.Proto, Src: f.Ip.Src, Dst: f.Ip.Dst, SrcP: f.SrcP, DstP: f.DstP}
			if got := impl.FlowHash(x, 5); got != -1 {
				t.Errorf("%s of %d: %d", c.name, v, got)
			}
			if got := impl.FlowHash(x, -5); got != -1 {
				t.Errorf("%s of %d with a wrong seed: %d", c.name, v, got)
			}
		}
		f := ordinaryFrame()
		c.set(&f, most)
		x, _ := impl.TupleOf(f)
		if got, want := impl.FlowHash(x, 5), flowNumber(x, 5); got != want {
			t.Errorf("%s at its most: %d, want %d", c.name, got, want)
		}
	}
}

// roomy has the bytes with spare room behind them, which is filled.
func roomy(b []byte) []byte {
	whole := append(append([]byte(nil), b...), bytes.Repeat([]byte{77}, 120)...)
	return whole[:len(b)]
}

func checkRoom(t *testing.T, got, b []byte) {
	t.Helper()
	whole := got[:cap(got)]
	if !bytes.Equal(whole[:len(b)], b) || bytes.ContainsFunc(whole[len(b):len(b)+120], func(r rune) bool { return r != 77 }) {
		t.Errorf("written into the argument: %v", whole)
	}
}

// Answers share nothing with arguments, and nothing is written into these or behind them.
func TestFramesAreNewMemory(t *testing.T) {
	f := ordinaryFrame()
	f.Data = roomy([]byte("hi"))
	b, _ := impl.Build(f)
	b[24] = 0
	checkRoom(t, f.Data, []byte("hi"))

	in := roomy(ordinaryBytes())
	back, _ := impl.Parse(in)
	back.Data[0] = 0
	_ = append(back.Data, 1, 2, 3)
	checkRoom(t, in, ordinaryBytes())

	m, _ := impl.MarkCe(in)
	marked, _ := impl.MarkCe(m)
	clear(m)
	if e, ok := impl.EcnOf(marked); e != impl.EcCe || !ok {
		t.Error("marked bytes share memory with what was marked")
	}
	checkRoom(t, in, ordinaryBytes())

	one, _ := impl.Build(ordinaryFrame())
	two, _ := impl.Build(ordinaryFrame())
	clear(one)
	if !bytes.Equal(two, ordinaryBytes()) {
		t.Error("two answers share memory:", two)
	}
	empty, _ := impl.Build(impl.Frame{})
	f, _ = impl.Parse(empty)
	if len(f.Data) != 0 {
		t.Error(f.Data)
	}
}
