package tally_test

import (
	"bytes"
	"hash/adler32"
	"math/big"
	"testing"

	"weirgate/tally"
)

// The calls have exactly these signatures.
var (
	_ func(...[]byte) uint32      = tally.Sum
	_ func(uint32, []byte) uint32 = tally.More
)

// slowMore is the chapter's words in numbers that can't overflow.
func slowMore(sum uint32, b []byte) uint32 {
	m := big.NewInt(65521)
	low := new(big.Int).Mod(big.NewInt(int64(sum%65536)), m)
	high := new(big.Int).Mod(big.NewInt(int64(sum/65536)), m)
	for _, x := range b {
		low.Mod(low.Add(low, big.NewInt(int64(x))), m)
		high.Mod(high.Add(high, low), m)
	}
	return uint32(high.Int64()*65536 + low.Int64())
}

// noise is n bytes that look like chance and are the same each time.
func noise(n int, seed uint32) []byte {
	b := make([]byte, n)
	for i := range b {
		seed = seed*1664525 + 1013904223
		b[i] = byte(seed >> 24)
	}
	return b
}

// samples are texts of many lengths, plain and extreme.
func samples() [][]byte {
	return [][]byte{
		nil,
		{},
		{0},
		{255},
		[]byte("a"),
		[]byte("weirgate"),
		bytes.Repeat([]byte{0}, 70000),
		bytes.Repeat([]byte{255}, 70000),
		noise(63, 1),
		noise(4015, 2),
		noise(70001, 3),
	}
}

// edgeSums are sums whose halves stand at and around 0, 65521 and 65535.
func edgeSums() []uint32 {
	halves := []uint32{0, 1, 2, 255, 256, 32767, 32768, 65265, 65266, 65519, 65520, 65521, 65522, 65534, 65535}
	var l []uint32
	for _, high := range halves {
		for _, low := range halves {
			l = append(l, high<<16|low)
		}
	}
	return l
}

// P1.1: numbers worked out by hand.
func TestSumOfKnownBytes(t *testing.T) {
	for _, x := range []struct {
		name  string
		parts [][]byte
		want  uint32
	}{
		{"no parts", nil, 1},
		{"a nil part", [][]byte{nil}, 1},
		{"an empty part", [][]byte{{}}, 1},
		{"nil and empty parts", [][]byte{nil, {}, nil, {}}, 1},
		{"a", [][]byte{[]byte("a")}, 6422626},
		{"a byte 0", [][]byte{{0}}, 1<<16 | 1},
		{"a byte 255", [][]byte{{255}}, 256<<16 | 256},
		{"1 then 2", [][]byte{{1, 2}}, 6<<16 | 4},
		{"2 then 1", [][]byte{{2, 1}}, 7<<16 | 4},
		{"Wikipedia", [][]byte{[]byte("Wikipedia")}, 0x11E60398},
		{"in parts", [][]byte{[]byte("Wi"), nil, []byte("kip"), {}, []byte("edia")}, 0x11E60398},
	} {
		if got := tally.Sum(x.parts...); got != x.want {
			t.Errorf("%s: Sum is %d, not %d", x.name, got, x.want)
		}
	}
}

// P1.1: A and B go round at 65521, not a number earlier or later.
func TestMoreGoesRound(t *testing.T) {
	for _, x := range []struct {
		name string
		sum  uint32
		b    []byte
		want uint32
	}{
		{"A up to 65520", 65519, []byte{1}, 65520<<16 | 65520},
		{"A to 65521", 65520, []byte{1}, 0},
		{"A past 65521", 65520, []byte{2}, 1<<16 | 1},
		{"A by 255", 65520, []byte{255}, 254<<16 | 254},
		{"B up to 65520", 65519 << 16, []byte{1}, 65520<<16 | 1},
		{"B to 65521", 65520 << 16, []byte{1}, 1},
		{"B past 65521", 65520 << 16, []byte{2}, 1<<16 | 2},
		{"both", 65520<<16 | 65520, []byte{0}, 65519<<16 | 65520},
	} {
		if got := tally.More(x.sum, x.b); got != x.want {
			t.Errorf("%s: More is %d, not %d", x.name, got, x.want)
		}
	}
	// 1 + 256*255 + 240 = 65521: A is 0 there by Sum alone.
	b := append(bytes.Repeat([]byte{255}, 256), 240)
	if got := tally.Sum(b) % 65536; got != 0 {
		t.Errorf("A at 65521 is %d, not 0", got)
	}
	// 65520 bytes 0 behind A = 1: B is 65520, then 0.
	zeros := make([]byte, 65521)
	if got := tally.Sum(zeros[:65520]); got != 65520<<16|1 {
		t.Errorf("B at 65520: Sum is %d", got)
	}
	if got := tally.Sum(zeros); got != 1 {
		t.Errorf("B at 65521: Sum is %d, not 1", got)
	}
}

// P1.1: the halves of a sum that is handed in are taken modulo 65521, even if
// no byte follows.
func TestMoreOfNothing(t *testing.T) {
	for _, x := range []struct{ sum, want uint32 }{
		{0, 0},
		{1, 1},
		{65520, 65520},
		{65521, 0},
		{65522, 1},
		{65535, 14},
		{65536, 65536},
		{65520 << 16, 65520 << 16},
		{65521 << 16, 0},
		{65535 << 16, 14 << 16},
		{1<<32 - 1, 14<<16 | 14},
	} {
		for _, b := range [][]byte{nil, {}} {
			if got := tally.More(x.sum, b); got != x.want {
				t.Errorf("More(%d, nothing) is %d, not %d", x.sum, got, x.want)
			}
		}
	}
}

// P1.1: for any sum and any bytes, the chapter's words in greater numbers.
func TestMoreIsTheSlowOne(t *testing.T) {
	for _, sum := range edgeSums() {
		for x := range 256 {
			b := []byte{byte(x)}
			if got, want := tally.More(sum, b), slowMore(sum, b); got != want {
				t.Fatalf("More(%d, %v) is %d, not %d", sum, b, got, want)
			}
		}
		b := noise(int(sum%97), sum)
		if got, want := tally.More(sum, b), slowMore(sum, b); got != want {
			t.Fatalf("More(%d, %v) is %d, not %d", sum, b, got, want)
		}
	}
	for i, b := range samples() {
		for _, sum := range []uint32{0, 1, 65520<<16 | 65520, 1<<32 - 1} {
			if got, want := tally.More(sum, b), slowMore(sum, b); got != want {
				t.Errorf("sample %d: More(%d, b) is %d, not %d", i, sum, got, want)
			}
		}
	}
}

// P1.1: the sum of the chapter is the one that is known as Adler-32.
func TestSumIsAdler(t *testing.T) {
	for i, b := range samples() {
		if got, want := tally.Sum(b), adler32.Checksum(b); got != want {
			t.Errorf("sample %d: Sum is %d, not %d", i, got, want)
		}
	}
}

// P1.1: where the parts are cut is not to be seen in the sum; their order is.
func TestSumOfManyParts(t *testing.T) {
	b := noise(3000, 4)
	want := tally.Sum(b)
	for _, size := range []int{1, 2, 63, 64, 1000, 2999, 3000} {
		parts := [][]byte{nil}
		for i := 0; i < len(b); i += size {
			parts = append(parts, b[i:min(i+size, len(b))], []byte{})
		}
		if got := tally.Sum(parts...); got != want {
			t.Errorf("parts of %d: Sum is %d, not %d", size, got, want)
		}
	}
	if tally.Sum(b[:1000], b[1000:]) == tally.Sum(b[1000:], b[:1000]) {
		t.Error("the order of the parts is not to be seen")
	}
}

// P1.2: Sum of two parts is More of the first one's Sum and the second one.
func TestSumIsMoreOfSum(t *testing.T) {
	for i, a := range samples() {
		for j, b := range samples() {
			got, want := tally.More(tally.Sum(a), b), tally.Sum(a, b)
			if got != want {
				t.Errorf("samples %d, %d: More is %d, Sum is %d", i, j, got, want)
			}
			if joined := adler32.Checksum(append(bytes.Clone(a), b...)); want != joined {
				t.Errorf("samples %d, %d: Sum is %d, of the joined bytes %d", i, j, want, joined)
			}
		}
	}
	b := noise(600, 5)
	for k := range len(b) + 1 {
		if got, want := tally.More(tally.Sum(b[:k]), b[k:]), tally.Sum(b[:k], b[k:]); got != want {
			t.Fatalf("cut at %d: More is %d, Sum is %d", k, got, want)
		}
	}
}

// What is handed in is not changed, its spare room included, and nothing is
// kept from call to call.
func TestNothingIsChangedOrKept(t *testing.T) {
	room := noise(100, 6)
	was := bytes.Clone(room)
	parts := [][]byte{room[:10], room[20:30], nil, room[40:40]}
	first := tally.Sum(parts...)
	tally.More(first, room[:50])
	if !bytes.Equal(room, was) {
		t.Error("the bytes were changed")
	}
	if len(parts) != 4 || len(parts[0]) != 10 || len(parts[1]) != 10 || parts[2] != nil || len(parts[3]) != 0 {
		t.Error("the parts were changed")
	}
	if again := tally.Sum(parts...); again != first {
		t.Errorf("Sum is %d, then %d", first, again)
	}
}
