package tests

import (
	"bytes"
	"math"
	"slices"
	"testing"

	"loop.example/g00453/impl"
)

const (
	headAndPorts = impl.HeadBytes + 4
	dataMost     = impl.MaxFrame - headAndPorts
)

// onesSum is Sum16 by another road: adding what is above 16 bits to the rest keeps a number what it is modulo 65535, and brings none to 0 that is not 0.
func onesSum(b []byte) int {
	if len(b) > 65535 {
		return 0
	}
	sum := 0
	for i := 0; i < len(b); i += 2 {
		sum += int(b[i]) * 256
		if i+1 < len(b) {
			sum += int(b[i+1])
		}
	}
	if sum == 0 {
		return 65535
	}
	if sum%65535 == 0 {
		return 0
	}
	return 65535 - sum%65535
}

func ordinaryFrame() impl.Frame {
	return impl.Frame{
		Ip:   impl.Ip{Dscp: 46, Ecn: impl.EcZero, Id: 7, Ttl: 64, Proto: 17, Src: 10<<24 + 1, Dst: 10<<24 + 2},
		SrcP: 1000, DstP: 80, Data: []byte("hi"),
	}
}

func ordinaryBytes() []byte {
	return []byte{69, 186, 0, 26, 0, 7, 0, 0, 64, 17, 102, 16, 10, 0, 0, 1, 10, 0, 0, 2, 3, 232, 0, 80, 104, 105}
}

func fullFrame() impl.Frame {
	return impl.Frame{
		Ip:   impl.Ip{Dscp: 63, Ecn: 3, Id: 65535, Ttl: 255, Proto: 255, Src: round - 1, Dst: round - 1},
		SrcP: 65535, DstP: 65535, Data: bytes.Repeat([]byte{255}, dataMost),
	}
}

// frameFrom makes a frame of each form out of any numbers; it is always FrameOk.
func frameFrom(list []int) impl.Frame {
	at := func(i, count int) int { return list[i] & (1<<count - 1) }
	f := impl.Frame{
		Ip:   impl.Ip{Dscp: at(0, 6), Ecn: at(1, 2), Id: at(2, 16), Ttl: at(3, 8), Proto: at(4, 8), Src: at(5, 32), Dst: at(6, 32)},
		SrcP: at(7, 16), DstP: at(8, 16),
	}
	for i := range at(9, 32) % (dataMost + 1) {
		f.Data = append(f.Data, byte(list[10]>>(i%8)+i))
	}
	return f
}

func someFrames() []impl.Frame {
	frames := []impl.Frame{{}, ordinaryFrame(), fullFrame()}
	list := noise(11 * 3000)
	for i := 0; i+11 <= len(list); i += 11 {
		frames = append(frames, frameFrom(list[i:i+11]))
	}
	return frames
}

func sameFrame(a, b impl.Frame) bool {
	return a.Ip == b.Ip && a.SrcP == b.SrcP && a.DstP == b.DstP && bytes.Equal(a.Data, b.Data)
}

// resum writes the sum that the first twenty bytes ask for.
func resum(b []byte) {
	b[10], b[11] = 0, 0
	sum := onesSum(b[:impl.HeadBytes])
	b[10], b[11] = byte(sum/256), byte(sum%256)
}

func TestFrameConstants(t *testing.T) {
	if impl.MaxFrame != 100 || impl.HeadBytes != 20 {
		t.Error(impl.MaxFrame, impl.HeadBytes)
	}
	if got := []int{impl.EcNot, impl.EcOne, impl.EcZero, impl.EcCe}; !slices.Equal(got, []int{0, 1, 2, 3}) {
		t.Error(got)
	}
	if got := []int{impl.FrWell, impl.FrShort, impl.FrKind, impl.FrLength, impl.FrSum}; !slices.Equal(got, []int{0, 1, 2, 3, 4}) {
		t.Error(got)
	}
}

// Promise 3.
func TestSum16ByHand(t *testing.T) {
	for _, c := range []struct {
		b    []byte
		want int
	}{
		{nil, 65535},
		{[]byte{}, 65535},
		{[]byte{0}, 65535},
		{[]byte{1}, 65535 - 256},
		{[]byte{0, 1}, 65534},
		{[]byte{0, 1, 2}, 65535 - 513},
		{[]byte{255, 255}, 0},
		{[]byte{255, 255, 255, 255}, 0},
		{[]byte{255, 255, 0, 1}, 65534},
		{[]byte{255, 255, 255, 255, 0, 1}, 65534}, // 1ffff, then 10000, then 1
		{[]byte{128, 0, 128, 0}, 65534},
		{[]byte{0, 1, 0xf2, 3, 0xf4, 0xf5, 0xf6, 0xf7}, 0xffff - 0xddf2}, // RFC 1071's own
		{[]byte{0x45, 0, 0, 0x73, 0, 0, 0x40, 0, 0x40, 0x11, 0, 0, 0xc0, 0xa8, 0, 1, 0xc0, 0xa8, 0, 0xc7}, 0xb861},
	} {
		if got := impl.Sum16(c.b); got != c.want {
			t.Errorf("Sum16(%v) = %d, want %d", c.b, got, c.want)
		}
	}
}

// Promise 3: an end of 65535 bytes, odd numbers of bytes, and sums that carry more than once.
func TestSum16AtAllLengths(t *testing.T) {
	for _, fill := range []byte{0, 1, 127, 128, 254, 255} {
		all := bytes.Repeat([]byte{fill}, 65537)
		for _, size := range []int{0, 1, 2, 3, 19, 20, 21, 513, 514, 515, 65533, 65534, 65535, 65536, 65537} {
			if got, want := impl.Sum16(all[:size]), onesSum(all[:size]); got != want {
				t.Errorf("Sum16 of %d bytes of %d = %d, want %d", size, fill, got, want)
			}
		}
	}
	list := noise(5000)
	for i := range list {
		var b []byte
		for k := range i % 90 {
			b = append(b, byte(list[(i+k)%len(list)]))
		}
		if got, want := impl.Sum16(b), onesSum(b); got != want {
			t.Fatalf("Sum16(%v) = %d, want %d", b, got, want)
		}
	}
	if got := impl.Sum16(bytes.Repeat([]byte{1}, 65536)); got != 0 {
		t.Error("one byte too many:", got)
	}
}

func TestSumLeavesSpareRoomAlone(t *testing.T) {
	b := []byte{1, 2, 3, 200, 201}
	if got := impl.Sum16(b[:3]); got != 65535-256-2-768 {
		t.Error("what lies behind the length was read:", got)
	}
	if !bytes.Equal(b, []byte{1, 2, 3, 200, 201}) {
		t.Error("written into the argument:", b)
	}
}

type fieldCase struct {
	name  string
	count int
	set   func(f *impl.Frame, v int)
}

func headFields() []fieldCase {
	return []fieldCase{
		{"Dscp", 6, func(f *impl.Frame, v int) { f.Ip.Dscp = v }},
		{"Ecn", 2, func(f *impl.Frame, v int) { f.Ip.Ecn = v }},
		{"Id", 16, func(f *impl.Frame, v int) { f.Ip.Id = v }},
		{"Ttl", 8, func(f *impl.Frame, v int) { f.Ip.Ttl = v }},
	}
}

func flowFields() []fieldCase {
	return []fieldCase{
		{"Proto", 8, func(f *impl.Frame, v int) { f.Ip.Proto = v }},
		{"Src", 32, func(f *impl.Frame, v int) { f.Ip.Src = v }},
		{"Dst", 32, func(f *impl.Frame, v int) { f.Ip.Dst = v }},
		{"SrcP", 16, func(f *impl.Frame, v int) { f.SrcP = v }},
		{"DstP", 16, func(f *impl.Frame, v int) { f.DstP = v }},
	}
}

// checkOk asks all three that go by FrameOk.
func checkOk(t *testing.T, f impl.Frame, want bool, name string) {
	t.Helper()
	if impl.FrameOk(f) != want {
		t.Errorf("%s: FrameOk is %v", name, !want)
	}
	if b, ok := impl.Build(f); ok != want || !ok && len(b) > 0 {
		t.Errorf("%s: Build answers %v, %v", name, b, ok)
	}
	if x, ok := impl.TupleOf(f); ok != want || !ok && x != (impl.Tuple{}) {
		t.Errorf("%s: TupleOf answers %v, %v", name, x, ok)
	}
}

// Promise 3: each field at its most, one above it, and below 0.
func TestFieldsHaveTheirBits(t *testing.T) {
	checkOk(t, impl.Frame{}, true, "zero value")
	checkOk(t, ordinaryFrame(), true, "ordinary")
	checkOk(t, fullFrame(), true, "all at their most")
	for _, c := range append(headFields(), flowFields()...) {
		most := 1<<c.count - 1
		for _, v := range []int{0, 1, most} {
			f := ordinaryFrame()
			c.set(&f, v)
			checkOk(t, f, true, c.name)
		}
		for _, v := range []int{-1, most + 1, most + 2, 2 * (most + 1), 1 << 62, math.MaxInt, math.MinInt, math.MinInt + 1} {
			f := ordinaryFrame()
			c.set(&f, v)
			checkOk(t, f, false, c.name)
		}
	}
}

func TestDataHasItsMost(t *testing.T) {
	f := ordinaryFrame()
	for _, size := range []int{0, 1, dataMost - 1, dataMost} {
		f.Data = make([]byte, size)
		checkOk(t, f, true, "Data that fits")
	}
	for _, size := range []int{dataMost + 1, dataMost + 2, 65536, 1 << 20} {
		f.Data = make([]byte, size)
		checkOk(t, f, false, "Data that is too long")
	}
}

// Promise 3.
func TestBuildByHand(t *testing.T) {
	full := fullFrame()
	full.Data = nil
	for _, c := range []struct {
		f    impl.Frame
		want []byte
	}{
		{ordinaryFrame(), ordinaryBytes()},
		{impl.Frame{}, []byte{69, 0, 0, 24, 0, 0, 0, 0, 0, 0, 186, 231, 0, 0, 0, 0, 0, 0, 0, 0, 0, 0, 0, 0}},
		{full, []byte{69, 255, 0, 24, 255, 255, 0, 0, 255, 255, 185, 232, 255, 255, 255, 255, 255, 255, 255, 255, 255, 255, 255, 255}},
	} {
		if got, ok := impl.Build(c.f); !ok || !bytes.Equal(got, c.want) {
			t.Errorf("Build(%v) = %v, %v, want %v", c.f, got, ok, c.want)
		}
	}
	if b, ok := impl.Build(fullFrame()); !ok || len(b) != impl.MaxFrame {
		t.Error("a frame of MaxFrame bytes:", b, ok)
	}
}

// Promise 3: frames come back from their bytes.
func TestFramesComeBack(t *testing.T) {
	for _, f := range someFrames() {
		b, ok := impl.Build(f)
		if !ok || len(b) != headAndPorts+len(f.Data) || onesSum(b[:impl.HeadBytes]) != 0 {
			t.Fatal(f, b, ok)
		}
		back, code := impl.Parse(b)
		if code != impl.FrWell || !sameFrame(back, f) {
			t.Fatalf("Parse(%v) = %v, %d, want %v", b, back, code, f)
		}
		if e, ok := impl.EcnOf(b); !ok || e != f.Ip.Ecn {
			t.Fatalf("EcnOf(%v) = %d, %v", b, e, ok)
		}
	}
}

// checkRead holds whatever is read against what Build makes of it.
func checkRead(t *testing.T, b []byte) (well bool) {
	t.Helper()
	f, code := impl.Parse(b)
	if code != impl.FrWell {
		if !sameFrame(f, impl.Frame{}) || code < impl.FrShort || code > impl.FrSum {
			t.Fatalf("Parse(%v) = %v, %d", b, f, code)
		}
		return false
	}
	if back, ok := impl.Build(f); !ok || !bytes.Equal(back, b) {
		t.Fatalf("Parse(%v) = %v, whose bytes are %v, %v", b, f, back, ok)
	}
	return true
}

// Promise 3: whatever bytes are read as a frame are just its bytes.
func TestBytesThatAreReadAreItsBytes(t *testing.T) {
	well := 0
	for i, f := range someFrames() {
		b, _ := impl.Build(f)
		for at := range b {
			old := b[at]
			b[at] ^= byte(1 << (i % 8))
			if checkRead(t, b) {
				well++
			}
			if resum(b); checkRead(t, b) {
				well++
			}
			b[at] = old
			resum(b)
		}
	}
	if well == 0 {
		t.Error("none was read")
	}
}

// Promise 3: every sum that might stand there, and just one is read.
func TestOneSumAlone(t *testing.T) {
	frames := []impl.Frame{{}, ordinaryFrame(), fullFrame(), zeroSumFrame()}
	for _, f := range frames {
		b, _ := impl.Build(f)
		own := int(b[10])*256 + int(b[11])
		for sum := range 65536 {
			b[10], b[11] = byte(sum/256), byte(sum%256)
			want := impl.FrSum
			if sum == own {
				want = impl.FrWell
			}
			if _, code := impl.Parse(b); code != want {
				t.Fatalf("%v with a sum of %d: code %d, want %d", f, sum, code, want)
			}
		}
	}
}

// zeroSumFrame is one whose sum is 0, so that 65535 in its place adds up as well.
func zeroSumFrame() impl.Frame {
	f := ordinaryFrame()
	f.Ip.Id = 0
	b, _ := impl.Build(f)
	f.Ip.Id = int(b[10])*256 + int(b[11])
	return f
}

func TestSumOf65535IsRefused(t *testing.T) {
	b, ok := impl.Build(zeroSumFrame())
	if !ok || b[10] != 0 || b[11] != 0 {
		t.Fatal(b)
	}
	if _, code := impl.Parse(b); code != impl.FrWell {
		t.Error(code)
	}
	b[10], b[11] = 255, 255
	if onesSum(b[:impl.HeadBytes]) != 0 {
		t.Fatal("it does not add up")
	}
	checkRefused(t, b, impl.FrSum)
}

// checkRefused asks all three that go by Parse.
func checkRefused(t *testing.T, b []byte, want int) {
	t.Helper()
	if f, code := impl.Parse(b); code != want || !sameFrame(f, impl.Frame{}) {
		t.Errorf("Parse(%v) = %v, %d, want code %d", b, f, code, want)
	}
	if e, ok := impl.EcnOf(b); e != 0 || ok {
		t.Errorf("EcnOf(%v) = %d, %v", b, e, ok)
	}
	if m, ok := impl.MarkCe(b); len(m) > 0 || ok {
		t.Errorf("MarkCe(%v) = %v, %v", b, m, ok)
	}
}

// withSum is what change makes of ordinary bytes, with a sum that is right.
func withSum(change func(b []byte) []byte) []byte {
	b := change(ordinaryBytes())
	resum(b)
	return b
}

// Promise 3: each reason alone, with all else right.
func TestBytesThatAreNoFrame(t *testing.T) {
	for size := range headAndPorts {
		b := ordinaryBytes()[:size]
		checkRefused(t, b, impl.FrShort)
		b = bytes.Repeat([]byte{255}, size)
		checkRefused(t, b, impl.FrShort)
	}
	checkRefused(t, nil, impl.FrShort)
	for _, first := range []byte{0, 68, 70, 255} {
		checkRefused(t, withSum(func(b []byte) []byte { b[0] = first; return b }), impl.FrKind)
	}
	for _, flag := range []byte{1, 64, 128, 255} {
		checkRefused(t, withSum(func(b []byte) []byte { b[6] = flag; return b }), impl.FrKind)
		checkRefused(t, withSum(func(b []byte) []byte { b[7] = flag; return b }), impl.FrKind)
	}
	for _, length := range []byte{0, 24, 25, 27, 255} {
		checkRefused(t, withSum(func(b []byte) []byte { b[3] = length; return b }), impl.FrLength)
	}
	checkRefused(t, withSum(func(b []byte) []byte { b[2] = 1; return b }), impl.FrLength)
	checkRefused(t, withSum(func(b []byte) []byte { return append(b, 0) }), impl.FrLength)
	for at := range impl.HeadBytes {
		if at == 0 || at == 2 || at == 3 || at == 6 || at == 7 {
			continue
		}
		b := ordinaryBytes()
		b[at]++
		checkRefused(t, b, impl.FrSum)
	}
}

// Promise 3: MaxFrame bytes are read, one more is not, even with its own length and sum.
func TestLongestFrame(t *testing.T) {
	b, _ := impl.Build(fullFrame())
	if _, code := impl.Parse(b); code != impl.FrWell {
		t.Error(code)
	}
	for _, size := range []int{impl.MaxFrame + 1, 255, 256, 300, 65535} {
		long := make([]byte, size)
		copy(long, b)
		long[2], long[3] = byte(size>>8), byte(size)
		resum(long)
		checkRefused(t, long, impl.FrLength)
	}
	huge := make([]byte, 65536+26) // as many as the length says, modulo 2^16
	copy(huge, ordinaryBytes())
	checkRefused(t, huge, impl.FrLength)
}

// Promise 3: of several reasons the one that is named first counts.
func TestFirstReasonCounts(t *testing.T) {
	b := ordinaryBytes()
	b[0], b[3], b[8] = 70, 99, 65
	checkRefused(t, b[:headAndPorts-1], impl.FrShort)
	checkRefused(t, b, impl.FrKind)
	b[0], b[7] = 69, 1
	checkRefused(t, b, impl.FrKind)
	b[7] = 0
	checkRefused(t, b, impl.FrLength)
	b[3] = 26
	checkRefused(t, b, impl.FrSum)
	b[8] = 64
	if _, code := impl.Parse(b); code != impl.FrWell {
		t.Error(code)
	}
	b[10], b[11], b[3] = 255, 255, 25
	checkRefused(t, b, impl.FrLength)
}

// Bytes behind the ports are not in the sum.
func TestPortsAndDataAreNotSummed(t *testing.T) {
	b := ordinaryBytes()
	b[20], b[23], b[25] = 1, 2, 3
	f, code := impl.Parse(b)
	if code != impl.FrWell || f.SrcP != 256+232 || f.DstP != 2 || string(f.Data) != "h\x03" {
		t.Error(f, code)
	}
}

// Promise 3: what is marked is what it was, but for that and its sum; marked again it is the same.
func TestMarks(t *testing.T) {
	for _, f := range someFrames() {
		b, _ := impl.Build(f)
		m, ok := impl.MarkCe(b)
		if f.Ip.Ecn == impl.EcNot {
			if ok || len(m) > 0 {
				t.Fatalf("MarkCe(%v) = %v, %v, though it knows no marks", b, m, ok)
			}
			continue
		}
		if !ok || len(m) != len(b) {
			t.Fatalf("MarkCe(%v) = %v, %v", b, m, ok)
		}
		for at := range b {
			if at != 1 && at != 10 && at != 11 && m[at] != b[at] {
				t.Fatalf("MarkCe(%v) = %v", b, m)
			}
		}
		marked := f
		marked.Ip.Ecn = impl.EcCe
		if back, code := impl.Parse(m); code != impl.FrWell || !sameFrame(back, marked) {
			t.Fatalf("Parse(%v) = %v, %d, want %v", m, back, code, marked)
		}
		if again, ok := impl.MarkCe(m); !ok || !bytes.Equal(again, m) {
			t.Fatalf("marked again: %v, %v, want %v", again, ok, m)
		}
		if e, ok := impl.EcnOf(m); !ok || e != impl.EcCe {
			t.Fatal(m, e, ok)
		}
	}
}

func TestMarksByHand(t *testing.T) {
	want := ordinaryBytes()
	want[1], want[11] = 187, 15
	if got, ok := impl.MarkCe(ordinaryBytes()); !ok || !bytes.Equal(got, want) {
		t.Error(got, ok, want)
	}
	if got, ok := impl.MarkCe(want); !ok || !bytes.Equal(got, want) {
		t.Error("marked already:", got, ok, want)
	}
	plain := ordinaryFrame()
	plain.Ip.Ecn = impl.EcNot
	b, _ := impl.Build(plain)
	if got, ok := impl.MarkCe(b); ok || len(got) > 0 {
		t.Error("EcNot:", got, ok)
	}
	if e, ok := impl.EcnOf(b); e != impl.EcNot || !ok {
		t.Error("EcNot:", e, ok)
	}
}
