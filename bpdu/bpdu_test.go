package bpdu_test

import (
	"bytes"
	"encoding/binary"
	"math"
	"math/rand"
	"slices"
	"testing"

	"weirgate/api"
	"weirgate/bpdu"
	"weirgate/frame"
)

// The calls have exactly these signatures.
var (
	_ func(api.Bpdu) bool                           = bpdu.Good
	_ func(uint64, api.Bpdu) (api.Frame, api.Errno) = bpdu.Frame
	_ func(api.Frame) (api.Bpdu, api.Errno)         = bpdu.Parse
	_ func(api.Frame) bool                          = bpdu.Is
)

// all is where BPDUs go.
const all = 0x0180c2000000

// known is a BPDU and the Body of its frame, written out by hand.
type known struct {
	b    api.Bpdu
	body string
}

func knowns() []known {
	return []known{
		// The least of all: an Alternate one that tells zeros.
		{api.Bpdu{Role: api.Alternate},
			"\x42\x42\x03\x00\x00\x02\x02\x04" + "\x00\x00\x00\x00\x00\x00\x00\x00" + "\x00\x00\x00\x00" + "\x00\x00\x00\x00\x00\x00\x00\x00" + "\x00\x00" + "\x00\x00" + "\x00\x00\x00\x00\x00\x00\x00"},

		// The greatest of all, with all flags.
		{api.Bpdu{Vec: api.Vec{Root: math.MaxUint64, Cost: math.MaxUint32, Bridge: math.MaxUint64, Port: 65535}, Age: 65535, Role: api.Designated, Proposal: true, Agreement: true, Learns: true, Forwards: true, TopologyChange: true},
			"\x42\x42\x03\x00\x00\x02\x02\x7f" + "\xff\xff\xff\xff\xff\xff\xff\xff" + "\xff\xff\xff\xff" + "\xff\xff\xff\xff\xff\xff\xff\xff" + "\xff\xff" + "\xff\xff" + "\x00\x00\x00\x00\x00\x00\x00"},

		// No two bytes alike: a Designated one that proposes (flags 0e).
		{api.Bpdu{Vec: api.Vec{Root: 0x8011121314151617, Cost: 0x21222324, Bridge: 0x3132333435363738, Port: 0x5152}, Age: 0x6162, Role: api.Designated, Proposal: true},
			"\x42\x42\x03\x00\x00\x02\x02\x0e" + "\x80\x11\x12\x13\x14\x15\x16\x17" + "\x21\x22\x23\x24" + "\x31\x32\x33\x34\x35\x36\x37\x38" + "\x51\x52" + "\x61\x62" + "\x00\x00\x00\x00\x00\x00\x00"},

		// A Root one that agrees, learns and forwards; one that tells a change.
		{api.Bpdu{Vec: api.Vec{Root: 1, Cost: 2, Bridge: 3, Port: 4}, Age: 5, Role: api.Root, Agreement: true, Learns: true, Forwards: true},
			"\x42\x42\x03\x00\x00\x02\x02\x78" + "\x00\x00\x00\x00\x00\x00\x00\x01" + "\x00\x00\x00\x02" + "\x00\x00\x00\x00\x00\x00\x00\x03" + "\x00\x04" + "\x00\x05" + "\x00\x00\x00\x00\x00\x00\x00"},
		{api.Bpdu{Vec: api.Vec{Root: 0x8000020000000001, Cost: 20000, Bridge: 0x8000020000000002, Port: 256}, Age: 256, Role: api.Root, TopologyChange: true},
			"\x42\x42\x03\x00\x00\x02\x02\x09" + "\x80\x00\x02\x00\x00\x00\x00\x01" + "\x00\x00\x4e\x20" + "\x80\x00\x02\x00\x00\x00\x00\x02" + "\x01\x00" + "\x01\x00" + "\x00\x00\x00\x00\x00\x00\x00"},

		// Each flag alone.
		{api.Bpdu{Role: api.Designated},
			"\x42\x42\x03\x00\x00\x02\x02\x0c" + zeros(31)},
		{api.Bpdu{Role: api.Designated, TopologyChange: true},
			"\x42\x42\x03\x00\x00\x02\x02\x0d" + zeros(31)},
		{api.Bpdu{Role: api.Alternate, Proposal: true},
			"\x42\x42\x03\x00\x00\x02\x02\x06" + zeros(31)},
		{api.Bpdu{Role: api.Root},
			"\x42\x42\x03\x00\x00\x02\x02\x08" + zeros(31)},
		{api.Bpdu{Role: api.Designated, Learns: true},
			"\x42\x42\x03\x00\x00\x02\x02\x1c" + zeros(31)},
		{api.Bpdu{Role: api.Designated, Forwards: true},
			"\x42\x42\x03\x00\x00\x02\x02\x2c" + zeros(31)},
		{api.Bpdu{Role: api.Root, Agreement: true},
			"\x42\x42\x03\x00\x00\x02\x02\x48" + zeros(31)},
	}
}

func zeros(n int) string { return string(make([]byte, n)) }

// framed is a frame with that Body, as BPDUs have it.
func framed(src uint64, body string) api.Frame {
	return api.Frame{Dst: all, Src: src, Kind: 39, Body: []byte(body)}
}

func same(a, b api.Frame) bool {
	return a.Dst == b.Dst && a.Src == b.Src && a.Tag == b.Tag && a.Prio == b.Prio && a.Vid == b.Vid && a.Kind == b.Kind && bytes.Equal(a.Body, b.Body)
}

// expectGood asks that b has a frame, a good one, and that it tells b alone.
func expectGood(t *testing.T, src uint64, b api.Bpdu) api.Frame {
	t.Helper()
	if !bpdu.Good(b) {
		t.Errorf("not good: %+v", b)
	}
	f, errno := bpdu.Frame(src, b)
	if errno != api.OK || !frame.Good(f) || !bpdu.Is(f) {
		t.Errorf("Frame(%x, %+v) is %+v, %v", src, b, f, errno)
	}
	expectTold(t, f, b)
	return f
}

// expectBad asks that b has no frame.
func expectBad(t *testing.T, b api.Bpdu) {
	t.Helper()
	if bpdu.Good(b) {
		t.Errorf("good: %+v", b)
	}
	expectNoFrame(t, 1, b)
	expectNoFrame(t, 1<<40, b)
}

func expectNoFrame(t *testing.T, src uint64, b api.Bpdu) {
	t.Helper()
	if f, errno := bpdu.Frame(src, b); errno != api.ErrForm || !same(f, api.Frame{}) {
		t.Errorf("Frame(%x, %+v) is %+v, %v", src, b, f, errno)
	}
}

// expectTold asks that f tells b.
func expectTold(t *testing.T, f api.Frame, b api.Bpdu) {
	t.Helper()
	if back, errno := bpdu.Parse(f); errno != api.OK || back != b {
		t.Errorf("Parse(%+v) is %+v, %v", f, back, errno)
	}
}

// expectForm asks that f tells no BPDU.
func expectForm(t *testing.T, f api.Frame) {
	t.Helper()
	if b, errno := bpdu.Parse(f); errno != api.ErrForm || b != (api.Bpdu{}) {
		t.Errorf("Parse(%+v) is %+v, %v", f, b, errno)
	}
}

// P11.1: BPDUs and their frames, as written out.
func TestKnown(t *testing.T) {
	for _, k := range knowns() {
		for _, src := range []uint64{0, 1, 0x020304050607, 1 << 41, 0xfeffffffffff} {
			want := framed(src, k.body)
			if f := expectGood(t, src, k.b); !same(f, want) {
				t.Errorf("Frame(%x, %+v) is %+v", src, k.b, f)
			}
			expectTold(t, want, k.b)
		}
	}
}

// P11.1: Age, Port and Role at their edges; what else stands in a BPDU may be
// any.
func TestGood(t *testing.T) {
	for _, n := range []int{0, 1, 255, 256, 65534, 65535} {
		expectGood(t, 1, api.Bpdu{Age: n, Role: api.Root})
		expectGood(t, 1, api.Bpdu{Vec: api.Vec{Port: n}, Role: api.Root})
		expectGood(t, 1, api.Bpdu{Vec: api.Vec{Port: n}, Age: n, Role: api.Alternate})
	}
	for _, n := range []int{-1, -2, -256, -65535, -65536, 65536, 65537, 1 << 17, 1 << 32, 1<<32 + 1, math.MinInt, math.MaxInt} {
		expectBad(t, api.Bpdu{Age: n, Role: api.Root})
		expectBad(t, api.Bpdu{Vec: api.Vec{Port: n}, Role: api.Root})
		expectBad(t, api.Bpdu{Vec: api.Vec{Port: n}, Age: n, Role: api.Designated})
	}
	for role := -300; role <= 300; role++ {
		b := api.Bpdu{Role: role, Proposal: true}
		if role == api.Alternate || role == api.Root || role == api.Designated {
			expectGood(t, 1, b)
		} else {
			expectBad(t, b)
		}
	}
	for _, role := range []int{1<<16 + 1, 1<<32 + 2, -1 << 32, math.MinInt, math.MinInt + 3, math.MaxInt} {
		expectBad(t, api.Bpdu{Role: role})
	}
	expectBad(t, api.Bpdu{})
	for i := range 64 {
		expectGood(t, 1, api.Bpdu{Vec: api.Vec{Root: 1 << i}, Role: api.Root})
		expectGood(t, 1, api.Bpdu{Vec: api.Vec{Bridge: 1 << i}, Role: api.Root})
		expectGood(t, 1, api.Bpdu{Vec: api.Vec{Cost: 1 << (i % 32)}, Role: api.Root})
	}
}

// P11.1: a sender is an address, and one of no group.
func TestSenders(t *testing.T) {
	b := knowns()[2].b
	for i := range 64 {
		src := uint64(1) << i
		if i == 40 || i >= 48 {
			expectNoFrame(t, src, b)
			expectNoFrame(t, src|1, b)
			continue
		}
		if f := expectGood(t, src, b); f.Src != src {
			t.Errorf("Src is %x, not %x", f.Src, src)
		}
		expectNoFrame(t, src|1<<40, b)
		expectNoFrame(t, src|1<<48, b)
	}
	for _, src := range []uint64{all, 0x0180c200000f, 1<<48 - 1, 1<<48 | 1<<40, math.MaxUint64} {
		expectNoFrame(t, src, b)
		f := framed(src, knowns()[2].body)
		expectForm(t, f)
	}
}

// P11.1: each way to set the flags, with each Role, from bit to bit.
func TestFlags(t *testing.T) {
	for bits := range 256 {
		b := api.Bpdu{
			TopologyChange: bits%2 == 1,
			Proposal:       bits/2%2 == 1,
			Role:           bits / 4 % 4,
			Learns:         bits/16%2 == 1,
			Forwards:       bits/32%2 == 1,
			Agreement:      bits/64%2 == 1,
		}
		f := framed(7, knowns()[0].body)
		f.Body[7] = byte(bits)
		switch {
		case bits/4%4 == 0:
			expectBad(t, b)
			expectForm(t, f)
		case bits >= 128:
			expectForm(t, f)
		default:
			expectTold(t, f, b)
			if g := expectGood(t, 7, b); !same(g, f) {
				t.Errorf("flags %02x: %x", bits, g.Body)
			}
		}
	}
}

// P11.1: each byte of a Body in place of the one that stands there: those
// ahead of the flags may be no other, the last seven any.
func TestEachByte(t *testing.T) {
	for _, k := range knowns() {
		for at := range 39 {
			for x := range 256 {
				f := framed(9, k.body)
				f.Body[at] = byte(x)
				switch {
				case at < 7 && f.Body[at] != k.body[at]:
					expectForm(t, f)
				case at < 7 || at >= 32:
					expectTold(t, f, k.b)
				case at > 7:
					expectTold(t, f, moved(k.b, f.Body))
				}
			}
		}
	}
}

// moved is b with what the numbers of body tell.
func moved(b api.Bpdu, body []byte) api.Bpdu {
	b.Vec = api.Vec{
		Root:   binary.BigEndian.Uint64(body[8:]),
		Cost:   binary.BigEndian.Uint32(body[16:]),
		Bridge: binary.BigEndian.Uint64(body[20:]),
		Port:   int(binary.BigEndian.Uint16(body[28:])),
	}
	b.Age = int(binary.BigEndian.Uint16(body[30:]))
	return b
}

// P11.1: 39 bytes of a Body at least, and what stands behind them is not
// looked at, as long as the frame is good.
func TestBodies(t *testing.T) {
	for _, k := range knowns() {
		long := slices.Concat([]byte(k.body), bytes.Repeat([]byte{0x42, 0xff, 0}, 600))
		for n := range len(long) {
			f := framed(3, string(long[:n]))
			if n < 39 || n > 1504 {
				expectForm(t, f)
			} else {
				expectTold(t, f, k.b)
			}
		}
		f := framed(3, k.body)
		f.Body = append(f.Body, f.Body...)
		expectTold(t, f, k.b)
		f.Body = long[:38:100]
		expectForm(t, f)
		f.Body = nil
		expectForm(t, f)
	}
	expectForm(t, framed(3, zeros(39)))
	expectForm(t, framed(3, zeros(1504)))
	expectForm(t, framed(3, "\x00"+knowns()[0].body))
	expectForm(t, api.Frame{})
}

// P11.1: a BPDU's frame goes to that one address, has that Kind and no tag.
func TestHeads(t *testing.T) {
	body := knowns()[2].body
	for i := range 64 {
		f := framed(3, body)
		f.Dst ^= 1 << i
		expectForm(t, f)
	}
	for kind := range 1 << 16 {
		f := framed(3, body)
		if f.Kind = kind; kind != 39 {
			expectForm(t, f)
		}
	}
	for _, kind := range []int{-1, -39, 65536, 65536 + 39, 1<<32 + 39, math.MinInt, math.MaxInt} {
		f := framed(3, body)
		f.Kind = kind
		expectForm(t, f)
	}
	for _, tag := range []api.Frame{
		{Tag: true},
		{Tag: true, Prio: 7},
		{Tag: true, Vid: 1},
		{Tag: true, Prio: 3, Vid: 4094},
		{Tag: true, Prio: 8},
		{Prio: 1},
		{Prio: -1},
		{Vid: 1},
		{Vid: 4096},
	} {
		f := framed(3, body)
		f.Tag, f.Prio, f.Vid = tag.Tag, tag.Prio, tag.Vid
		expectForm(t, f)
	}
}

// P11.1: Is asks where a frame goes, and nothing else.
func TestIs(t *testing.T) {
	for _, f := range []api.Frame{
		{},
		{Kind: 5},
		{Src: math.MaxUint64, Tag: true, Prio: -1, Vid: 4096, Kind: 33024},
		{Src: all, Kind: 39},
		{Kind: 39, Body: []byte(knowns()[0].body)},
		{Body: make([]byte, 5000)},
	} {
		f.Dst = all
		if !bpdu.Is(f) {
			t.Errorf("%+v is none", f)
		}
		for i := range 64 {
			other := f
			if other.Dst ^= 1 << i; bpdu.Is(other) {
				t.Errorf("%+v is one", other)
			}
		}
		for _, dst := range []uint64{0, 1, all - 1, all + 1, all + 14, all + 15, all + 16, 1<<48 - 1, math.MaxUint64} {
			other := f
			if other.Dst = dst; bpdu.Is(other) {
				t.Errorf("%+v is one", other)
			}
		}
	}
}

// P11.1: a frame's Body is its own, its spare room too; Parse leaves the Body
// as it is, with the room behind it, and keeps nothing of it.
func TestMemory(t *testing.T) {
	for _, k := range knowns() {
		f, _ := bpdu.Frame(5, k.b)
		g, _ := bpdu.Frame(5, k.b)
		spoil(f.Body)
		if string(g.Body) != k.body {
			t.Errorf("two frames of %+v share memory", k.b)
		}
		if h, _ := bpdu.Frame(5, k.b); string(h.Body) != k.body {
			t.Errorf("a frame of %+v hangs on an elder one", k.b)
		}

		for _, cut := range []int{0, 38, 39} {
			whole := slices.Concat([]byte(k.body), bytes.Repeat([]byte{0xee}, 64))
			before := slices.Clone(whole)
			in := framed(5, "")
			in.Body = whole[:cut]
			b, errno := bpdu.Parse(in)
			if !bytes.Equal(whole, before) {
				t.Errorf("Parse of %+v changes the Body", k.b)
			}
			spoil(whole)
			if cut == 39 && (errno != api.OK || b != k.b) {
				t.Errorf("Parse of %+v keeps the Body", k.b)
			}
		}
	}
}

// spoil fills all of b, its spare room too.
func spoil(b []byte) {
	b = b[:cap(b)]
	for i := range b {
		b[i] = 0x55
	}
}

// randomBpdu is a good BPDU, often one at an edge.
func randomBpdu(play *rand.Rand) api.Bpdu {
	short := func() int { return []int{0, 1, 65535, play.Intn(1 << 16)}[play.Intn(4)] }
	bits := play.Intn(32)
	return api.Bpdu{
		Vec: api.Vec{
			Root:   play.Uint64() >> play.Intn(64),
			Cost:   play.Uint32() >> play.Intn(32),
			Bridge: play.Uint64() >> play.Intn(64),
			Port:   short(),
		},
		Age:            short(),
		Role:           1 + play.Intn(3),
		Proposal:       bits&1 != 0,
		Agreement:      bits&2 != 0,
		Learns:         bits&4 != 0,
		Forwards:       bits&8 != 0,
		TopologyChange: bits&16 != 0,
	}
}

// P11.2: Parse of Frame is the BPDU, also by way of the frame's bytes.
func TestThereAndBack(t *testing.T) {
	play := rand.New(rand.NewSource(11))
	for range 20000 {
		b := randomBpdu(play)
		src := play.Uint64() >> (16 + play.Intn(48)) &^ (1 << 40)
		f := expectGood(t, src, b)
		raw, errno := frame.Encode(f)
		if errno != api.OK || len(raw) != 53 {
			t.Fatalf("Encode of the frame of %+v: %d bytes, %v", b, len(raw), errno)
		}
		back, _ := frame.Parse(raw)
		expectTold(t, back, b)
	}
}

// P11.1: a frame that tells a BPDU is that BPDU's, but for the bytes that are
// not looked at; all others have an error.
func TestBackAndThere(t *testing.T) {
	play := rand.New(rand.NewSource(12))
	good := 0
	for range 20000 {
		f, _ := bpdu.Frame(4, randomBpdu(play))
		f.Body = append(f.Body, make([]byte, play.Intn(4))...)
		for range 1 + play.Intn(3) {
			f.Body[play.Intn(len(f.Body))] = byte(play.Intn(256))
		}
		b, errno := bpdu.Parse(f)
		if errno != api.OK {
			expectForm(t, f)
			continue
		}
		good++
		g, _ := bpdu.Frame(4, b)
		if !bytes.Equal(g.Body[:32], f.Body[:32]) {
			t.Fatalf("%x tells %+v", f.Body, b)
		}
	}
	if good < 5000 || good > 19000 {
		t.Error("frames that tell a BPDU:", good)
	}
}
