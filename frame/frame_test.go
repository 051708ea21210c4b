package frame_test

import (
	"bytes"
	"encoding/binary"
	"math"
	"math/rand"
	"slices"
	"testing"

	"weirgate/api"
	"weirgate/frame"
)

// The calls have exactly these signatures.
var (
	_ func(api.Frame) bool                        = frame.Good
	_ func(api.Frame) ([]byte, api.Errno)         = frame.Encode
	_ func([]byte) (api.Frame, api.Errno)         = frame.Parse
	_ func(api.Frame, int) (api.Frame, api.Errno) = frame.Tagged
	_ func(api.Frame) api.Frame                   = frame.Bare
)

// known is a frame and its bytes, written out by hand.
type known struct {
	f api.Frame
	b []byte
}

func knowns() []known {
	return []known{
		// All zeros, without a tag and with one of zeros.
		{api.Frame{}, make([]byte, 14)},
		{api.Frame{Tag: true}, []byte{0, 0, 0, 0, 0, 0, 0, 0, 0, 0, 0, 0, 0x81, 0, 0, 0, 0, 0}},

		// To one, with some bytes, one byte and none; with a tag likewise.
		{api.Frame{Dst: 0x02aabbccddee, Src: 0x0a1122334455, Kind: 0x0800, Body: []byte("hello")}, []byte("\x02\xaa\xbb\xcc\xdd\xee\x0a\x11\x22\x33\x44\x55\x08\x00hello")},
		{api.Frame{Dst: 0x02aabbccddee, Src: 0x0a1122334455, Kind: 0x86dd, Body: []byte{0}}, []byte("\x02\xaa\xbb\xcc\xdd\xee\x0a\x11\x22\x33\x44\x55\x86\xdd\x00")},
		{api.Frame{Dst: 0x02aabbccddee, Src: 0x0a1122334455, Kind: 0x0806}, []byte("\x02\xaa\xbb\xcc\xdd\xee\x0a\x11\x22\x33\x44\x55\x08\x06")},
		{api.Frame{Dst: 0x02aabbccddee, Src: 0x0a1122334455, Tag: true, Prio: 5, Vid: 300, Kind: 0x0800, Body: []byte("hello")}, []byte("\x02\xaa\xbb\xcc\xdd\xee\x0a\x11\x22\x33\x44\x55\x81\x00\xa1\x2c\x08\x00hello")},
		{api.Frame{Dst: 0x02aabbccddee, Src: 0x0a1122334455, Tag: true, Prio: 1, Vid: 2, Kind: 0x0800, Body: []byte{0xff}}, []byte("\x02\xaa\xbb\xcc\xdd\xee\x0a\x11\x22\x33\x44\x55\x81\x00\x20\x02\x08\x00\xff")},
		{api.Frame{Dst: 0x02aabbccddee, Src: 0x0a1122334455, Tag: true, Prio: 2, Vid: 0x123, Kind: 0x0806}, []byte("\x02\xaa\xbb\xcc\xdd\xee\x0a\x11\x22\x33\x44\x55\x81\x00\x41\x23\x08\x06")},

		// To a group, to all, to one that is kept back.
		{api.Frame{Dst: 0x0180c2000000, Src: 1, Kind: 39, Body: []byte{0x42, 0x42, 3}}, []byte("\x01\x80\xc2\x00\x00\x00\x00\x00\x00\x00\x00\x01\x00\x27\x42\x42\x03")},
		{api.Frame{Dst: 1<<48 - 1, Src: 0xfeffffffffff, Kind: 0xffff, Body: []byte{1, 2}}, []byte("\xff\xff\xff\xff\xff\xff\xfe\xff\xff\xff\xff\xff\xff\xff\x01\x02")},
		{api.Frame{Dst: 1 << 40, Src: 1 << 41, Tag: true, Prio: 3, Vid: 1, Kind: 1}, []byte("\x01\x00\x00\x00\x00\x00\x02\x00\x00\x00\x00\x00\x81\x00\x60\x01\x00\x01")},

		// The edges of a tag.
		{api.Frame{Tag: true, Prio: 7, Vid: 4095, Kind: 0xffff}, []byte("\x00\x00\x00\x00\x00\x00\x00\x00\x00\x00\x00\x00\x81\x00\xef\xff\xff\xff")},
		{api.Frame{Tag: true, Prio: 7, Vid: 0}, []byte("\x00\x00\x00\x00\x00\x00\x00\x00\x00\x00\x00\x00\x81\x00\xe0\x00\x00\x00")},
		{api.Frame{Tag: true, Prio: 0, Vid: 1}, []byte("\x00\x00\x00\x00\x00\x00\x00\x00\x00\x00\x00\x00\x81\x00\x00\x01\x00\x00")},
		{api.Frame{Tag: true, Prio: 0, Vid: 4094}, []byte("\x00\x00\x00\x00\x00\x00\x00\x00\x00\x00\x00\x00\x81\x00\x0f\xfe\x00\x00")},
		{api.Frame{Tag: true, Prio: 0, Vid: 4095}, []byte("\x00\x00\x00\x00\x00\x00\x00\x00\x00\x00\x00\x00\x81\x00\x0f\xff\x00\x00")},

		// The Kinds beside the mark of a tag, and the mark where it is none.
		{api.Frame{Kind: 33023}, []byte("\x00\x00\x00\x00\x00\x00\x00\x00\x00\x00\x00\x00\x80\xff")},
		{api.Frame{Kind: 33025}, []byte("\x00\x00\x00\x00\x00\x00\x00\x00\x00\x00\x00\x00\x81\x01")},
		{api.Frame{Tag: true, Kind: 33023}, []byte("\x00\x00\x00\x00\x00\x00\x00\x00\x00\x00\x00\x00\x81\x00\x00\x00\x80\xff")},
		{api.Frame{Tag: true, Kind: 33025}, []byte("\x00\x00\x00\x00\x00\x00\x00\x00\x00\x00\x00\x00\x81\x00\x00\x00\x81\x01")},
		{api.Frame{Kind: 1, Body: []byte{0x81, 0, 0, 5}}, []byte("\x00\x00\x00\x00\x00\x00\x00\x00\x00\x00\x00\x00\x00\x01\x81\x00\x00\x05")},
		{api.Frame{Tag: true, Body: []byte{0x81, 0}}, []byte("\x00\x00\x00\x00\x00\x00\x00\x00\x00\x00\x00\x00\x81\x00\x00\x00\x00\x00\x81\x00")},
		{api.Frame{Dst: 0x810000008100, Src: 0x810000008100 &^ (1 << 40), Kind: 0x0081}, []byte("\x81\x00\x00\x00\x81\x00\x80\x00\x00\x00\x81\x00\x00\x81")},
	}
}

func same(a, b api.Frame) bool {
	return a.Dst == b.Dst && a.Src == b.Src && a.Tag == b.Tag && a.Prio == b.Prio && a.Vid == b.Vid && a.Kind == b.Kind && bytes.Equal(a.Body, b.Body)
}

func copied(f api.Frame) api.Frame {
	f.Body = slices.Clone(f.Body)
	return f
}

// expectGood asks that f has bytes, and that they are f's alone.
func expectGood(t *testing.T, f api.Frame) []byte {
	t.Helper()
	if !frame.Good(f) {
		t.Errorf("not good: %+v", f)
	}
	b, errno := frame.Encode(f)
	if errno != api.OK {
		t.Errorf("Encode(%+v): %v", f, errno)
	}
	if back, errno := frame.Parse(b); errno != api.OK || !same(back, f) {
		t.Errorf("Parse of the bytes of %+v is %+v, %v", f, back, errno)
	}
	return b
}

// expectBad asks that f has no bytes.
func expectBad(t *testing.T, f api.Frame) {
	t.Helper()
	if frame.Good(f) {
		t.Errorf("good: %+v", f)
	}
	if b, errno := frame.Encode(f); len(b) != 0 || errno != api.ErrForm {
		t.Errorf("Encode(%+v) is %x, %v", f, b, errno)
	}
}

// expectForm asks that b is no frame's bytes.
func expectForm(t *testing.T, b []byte) {
	t.Helper()
	if f, errno := frame.Parse(b); errno != api.ErrForm || !same(f, api.Frame{}) {
		t.Errorf("Parse(%x) is %+v, %v", b, f, errno)
	}
}

// P10.1: frames and their bytes, as written out.
func TestKnown(t *testing.T) {
	for _, k := range knowns() {
		if b := expectGood(t, k.f); !bytes.Equal(b, k.b) {
			t.Errorf("Encode(%+v) is %x", k.f, b)
		}
		if f, errno := frame.Parse(k.b); errno != api.OK || !same(f, k.f) {
			t.Errorf("Parse(%x) is %+v, %v", k.b, f, errno)
		}
	}
}

// P10.1: addresses at their edges; Src of a group is none.
func TestPlaces(t *testing.T) {
	for _, tag := range []bool{false, true} {
		for _, a := range []uint64{0, 1, 1<<40 - 1, 1 << 41, 0x0080c2000000, 0xfeffffffffff, 1<<47 | 5} {
			expectGood(t, api.Frame{Dst: a, Tag: tag})
			expectGood(t, api.Frame{Src: a, Tag: tag})
			expectGood(t, api.Frame{Dst: a, Src: a, Tag: tag})
		}
		for _, a := range []uint64{1 << 40, 1<<40 | 7, 0x0180c2000000, 0x0180c200000f, 0xff0000000000, 1<<48 - 1} {
			expectGood(t, api.Frame{Dst: a, Tag: tag})
			expectBad(t, api.Frame{Src: a, Tag: tag})
			expectBad(t, api.Frame{Dst: a, Src: a, Tag: tag})
		}
		for _, a := range []uint64{1 << 48, 1<<48 | 1, 1<<48 | 1<<40, 1 << 63, math.MaxUint64} {
			expectBad(t, api.Frame{Dst: a, Tag: tag})
			expectBad(t, api.Frame{Src: a, Tag: tag})
			expectBad(t, api.Frame{Dst: a, Src: a, Tag: tag})
		}
	}
	for i := range 64 {
		a := uint64(1) << i
		if frame.Good(api.Frame{Dst: a}) != (i < 48) || frame.Good(api.Frame{Src: a}) != (i < 48 && i != 40) {
			t.Error("bit", i)
		}
	}
}

// P10.1: Prio and Vid at their edges; without a tag both are 0.
func TestTags(t *testing.T) {
	prios := []int{0, 1, 6, 7}
	vids := []int{0, 1, 2, 4093, 4094, 4095}
	for _, prio := range prios {
		for _, vid := range vids {
			b := expectGood(t, api.Frame{Tag: true, Prio: prio, Vid: vid})
			if n := int(binary.BigEndian.Uint16(b[14:])); len(b) != 18 || n != prio*8192+vid {
				t.Errorf("Prio %d, Vid %d: %x", prio, vid, b)
			}
			if prio == 0 && vid == 0 {
				expectGood(t, api.Frame{})
			} else {
				expectBad(t, api.Frame{Prio: prio, Vid: vid})
			}
		}
		for _, vid := range []int{-1, -4096, 4096, 4097, 8191, 8192, 65536, math.MinInt, math.MaxInt} {
			expectBad(t, api.Frame{Tag: true, Prio: prio, Vid: vid})
			expectBad(t, api.Frame{Prio: prio, Vid: vid})
		}
	}
	for _, prio := range []int{-1, -8, 8, 9, 15, 256, math.MinInt, math.MaxInt} {
		for _, vid := range append(vids, -1, 4096, 8192) {
			expectBad(t, api.Frame{Tag: true, Prio: prio, Vid: vid})
			expectBad(t, api.Frame{Prio: prio, Vid: vid})
		}
	}
}

// P10.1: every tag's two bytes: the fifth bit alone makes them wrong.
func TestEachTag(t *testing.T) {
	b := make([]byte, 20)
	b[12], b[18], b[19] = 0x81, 'o', 'k'
	for n := range 1 << 16 {
		binary.BigEndian.PutUint16(b[14:], uint16(n))
		f, errno := frame.Parse(b)
		want := api.Frame{Tag: true, Prio: n >> 13, Vid: n & 4095, Body: []byte("ok")}
		if n&4096 != 0 {
			want = api.Frame{}
		}
		if (errno == api.OK) != (n&4096 == 0) || errno != api.OK && errno != api.ErrForm || !same(f, want) {
			t.Fatalf("tag %04x: %+v, %v", n, f, errno)
		}
		if errno != api.OK {
			continue
		}
		if back, errno := frame.Encode(f); errno != api.OK || !bytes.Equal(back, b) {
			t.Fatalf("tag %04x: %x, %v", n, back, errno)
		}
	}
}

// P10.1: every Kind but that of a tag, and none beyond.
func TestKinds(t *testing.T) {
	for _, tag := range []bool{false, true} {
		for kind := range 1 << 16 {
			f := api.Frame{Tag: tag, Kind: kind}
			if kind == 33024 {
				expectBad(t, f)
				continue
			}
			b := expectGood(t, f)
			if int(binary.BigEndian.Uint16(b[len(b)-2:])) != kind {
				t.Fatalf("Kind %d: %x", kind, b)
			}
		}
		for _, kind := range []int{-1, -2, -33024, 65536, 65537, 65536 + 33024, 1 << 32, math.MinInt, math.MaxInt} {
			expectBad(t, api.Frame{Tag: tag, Kind: kind})
		}
	}
}

// P10.1: how many bytes a Body may have, with a tag and without.
func TestBodies(t *testing.T) {
	for _, tag := range []bool{false, true} {
		room, ahead := 1504, 14
		if tag {
			room, ahead = 1500, 18
		}
		for _, n := range []int{0, 1, 2, 45, 46, 1000, 1496, 1499, 1500, 1501, 1503, 1504, 1505, 1518, 4096, 1 << 16} {
			f := api.Frame{Src: 3, Tag: tag, Kind: 1, Body: bytes.Repeat([]byte{0xa5}, n)}
			if n > room {
				expectBad(t, f)
				continue
			}
			if b := expectGood(t, f); len(b) != ahead+n || !bytes.Equal(b[ahead:], f.Body) {
				t.Errorf("a Body of %d: %d bytes", n, len(b))
			}
		}
		expectBad(t, api.Frame{Tag: tag, Body: make([]byte, room+1)})
		expectGood(t, api.Frame{Tag: tag, Body: make([]byte, room)})
		expectGood(t, api.Frame{Tag: tag, Body: []byte{}})
		expectGood(t, api.Frame{Tag: tag, Body: make([]byte, 0, 4096)})
	}
}

// P10.1: bytes that end within a part, and bytes beyond the most.
func TestParseLengths(t *testing.T) {
	whole := slices.Concat([]byte("\x00\x01\x02\x03\x04\x05\x06\x07\x08\x09\x0a\x0b\x0c\x0d"), bytes.Repeat([]byte("xy"), 1000))
	for n := range len(whole) {
		f, errno := frame.Parse(whole[:n])
		if n < 14 || n > api.MaxFrame {
			expectForm(t, whole[:n])
			continue
		}
		want := api.Frame{Dst: 0x000102030405, Src: 0x060708090a0b, Kind: 0x0c0d, Body: whole[14:n]}
		if errno != api.OK || !same(f, want) {
			t.Errorf("%d bytes: %v", n, errno)
		}
	}
	tag := slices.Concat(whole[:12], []byte("\x81\x00\x2f\xff\x0c\x0d"), whole[14:])
	for n := range len(tag) {
		f, errno := frame.Parse(tag[:n])
		if n < 18 || n > api.MaxFrame {
			expectForm(t, tag[:n])
			continue
		}
		want := api.Frame{Dst: 0x000102030405, Src: 0x060708090a0b, Tag: true, Prio: 1, Vid: 4095, Kind: 0x0c0d, Body: tag[18:n]}
		if errno != api.OK || !same(f, want) {
			t.Errorf("%d bytes with a tag: %v", n, errno)
		}
	}
	expectForm(t, nil)
	expectForm(t, []byte{})
	expectForm(t, make([]byte, 13, 64))
	expectForm(t, tag[:17:64])
	expectForm(t, make([]byte, 1<<20))
}

// P10.1: bytes that are no frame's, though there are enough of them.
func TestParseWrong(t *testing.T) {
	places := make([]byte, 12)
	for _, behind := range []string{
		"\x81\x00\x00\x01\x81\x00",                         // a tag behind a tag, without its end
		"\x81\x00\x00\x01\x81\x00\x00\x02\x08\x00",         // with its end
		"\x81\x00\x00\x00\x81\x00\x00\x00\x08\x00 a body ", // both of zeros
		"\x81\x00\x10\x00\x08\x00",                         // the fifth bit alone
		"\x81\x00\x10\x01\x08\x00",
		"\x81\x00\xf0\x00\x08\x00body",
		"\x81\x00\xff\xff\x08\x00body",
		"\x81\x00\x1f\xff\x81\x00",
		"\x81\x00",
		"\x81\x00\x00",
		"\x81\x00\x00\x01",
		"\x81\x00\x00\x01\x08",
	} {
		expectForm(t, slices.Concat(places, []byte(behind)))
	}
	for first := range 256 {
		for _, behind := range []string{"\x08\x00a", "\x81\x00\x00\x01\x08\x00a"} {
			b := slices.Concat(places, []byte(behind))
			b[6] = byte(first)
			if first%2 == 1 {
				expectForm(t, b)
			} else if f, errno := frame.Parse(b); errno != api.OK || f.Src != uint64(first)<<40 {
				t.Errorf("Src %x: %x, %v", first, f.Src, errno)
			}
			b[0], b[6] = byte(first), 0
			if f, errno := frame.Parse(b); errno != api.OK || f.Dst != uint64(first)<<40 {
				t.Errorf("Dst %x: %x, %v", first, f.Dst, errno)
			}
		}
	}
}

// anyFrames is good frames and such as are not: nothing of them is asked when
// a tag is put on or taken off.
func anyFrames() []api.Frame {
	var all []api.Frame
	for _, k := range knowns() {
		all = append(all, k.f)
	}
	return append(all,
		api.Frame{Prio: 9, Vid: 4096},
		api.Frame{Prio: -1, Vid: -1, Body: []byte("x")},
		api.Frame{Tag: true, Prio: 9, Vid: -7, Body: []byte("y")},
		api.Frame{Tag: true, Prio: math.MinInt, Vid: math.MaxInt},
		api.Frame{Dst: math.MaxUint64, Src: 1 << 40, Kind: 33024, Body: []byte("z")},
		api.Frame{Dst: 1 << 48, Src: 1 << 63, Tag: true, Kind: -1},
		api.Frame{Body: make([]byte, 1504)},
		api.Frame{Body: make([]byte, 5000)},
		api.Frame{Tag: true, Prio: 4, Body: make([]byte, 1501)},
	)
}

// P10.2: Tagged puts that Vid on; the Prio of a tag stays, of none it is 0.
func TestTagged(t *testing.T) {
	for _, f := range anyFrames() {
		for _, vid := range []int{1, 2, 10, 4093, 4094} {
			want := copied(f)
			want.Tag, want.Vid = true, vid
			if !f.Tag {
				want.Prio = 0
			}
			if g, errno := frame.Tagged(f, vid); errno != api.OK || !same(g, want) {
				t.Errorf("Tagged(%+v, %d) is %+v, %v", f, vid, g, errno)
			}
		}
		for _, vid := range []int{0, -1, -4094, 4095, 4096, 8193, 65537, math.MinInt, math.MaxInt} {
			if g, errno := frame.Tagged(f, vid); errno != api.ErrArg || !same(g, api.Frame{}) {
				t.Errorf("Tagged(%+v, %d) is %+v, %v", f, vid, g, errno)
			}
		}
	}
}

// P10.2: Bare takes the tag away, with its Prio and its Vid, and nothing else.
func TestBare(t *testing.T) {
	for _, f := range anyFrames() {
		want := copied(f)
		want.Tag, want.Prio, want.Vid = false, 0, 0
		if g := frame.Bare(f); !same(g, want) {
			t.Errorf("Bare(%+v) is %+v", f, g)
		}
	}
}

// P10.2: a Body that has no room beside a tag makes a frame that is not good,
// and is good again without the tag.
func TestTaggedTooLong(t *testing.T) {
	for n := 1499; n <= 1504; n++ {
		f := api.Frame{Kind: 2048, Body: bytes.Repeat([]byte{7}, n)}
		g, errno := frame.Tagged(f, 5)
		if errno != api.OK || len(g.Body) != n {
			t.Error(n, errno)
		}
		if n > 1500 {
			expectBad(t, g)
		} else {
			expectGood(t, g)
		}
		expectGood(t, frame.Bare(g))
	}
}

// within is a piece of memory with room ahead and behind, all of it filled,
// and what it was.
func within(b []byte) (piece, whole, before []byte) {
	whole = slices.Concat(bytes.Repeat([]byte{0xee}, 8), b, bytes.Repeat([]byte{0xee}, 2048))
	return whole[8 : 8+len(b)], whole, slices.Clone(whole)
}

// spoil fills all of b, its spare room too.
func spoil(b []byte) {
	b = b[:cap(b)]
	for i := range b {
		b[i] = 0x55
	}
}

// P10.1: what is handed in stays, with the room behind it, and shares nothing
// with what is told, nor two answers with each other.
func TestMemoryOfBytes(t *testing.T) {
	for _, k := range knowns() {
		f := k.f
		body, whole, before := within(k.f.Body)
		f.Body = body
		b, _ := frame.Encode(f)
		other, _ := frame.Encode(f)
		spoil(b)
		if !bytes.Equal(whole, before) || !bytes.Equal(other, k.b) {
			t.Errorf("Encode(%+v) shares memory", k.f)
		}
		spoil(whole)
		if !bytes.Equal(other, k.b) {
			t.Errorf("Encode(%+v) keeps the Body", k.f)
		}

		in, whole, before := within(k.b)
		g, _ := frame.Parse(in)
		h, _ := frame.Parse(in)
		spoil(g.Body)
		if !bytes.Equal(whole, before) || !same(h, k.f) {
			t.Errorf("Parse(%x) shares memory", k.b)
		}
		spoil(whole)
		if !same(h, k.f) {
			t.Errorf("Parse(%x) keeps the bytes", k.b)
		}
	}
}

// P10.2: likewise of the Body where a tag comes or goes, or stays as it is.
func TestMemoryOfTags(t *testing.T) {
	calls := []func(api.Frame) api.Frame{
		frame.Bare,
		func(f api.Frame) api.Frame { g, _ := frame.Tagged(f, 9); return g },
		func(f api.Frame) api.Frame { g, _ := frame.Tagged(f, max(1, min(f.Vid, 4094))); return g },
	}
	for _, from := range anyFrames() {
		for i, call := range calls {
			f := from
			body, whole, before := within(from.Body)
			f.Body = body
			g, h := call(f), call(f)
			spoil(g.Body)
			if !bytes.Equal(whole, before) || !bytes.Equal(h.Body, from.Body) {
				t.Errorf("call %d of %+v shares memory", i, from)
			}
			spoil(whole)
			if !bytes.Equal(h.Body, from.Body) {
				t.Errorf("call %d of %+v keeps the Body", i, from)
			}
		}
	}
}

// P10.1: with an error nothing of what was handed in is changed either.
func TestMemoryOfErrors(t *testing.T) {
	for _, b := range []string{"", "\x81\x00", "\x00\x00\x00\x00\x00\x00\x01\x00\x00\x00\x00\x00\x08\x00abc", "\x00\x00\x00\x00\x00\x00\x00\x00\x00\x00\x00\x00\x81\x00\x00\x01\x81\x00abc"} {
		in, whole, before := within([]byte(b))
		expectForm(t, in)
		if !bytes.Equal(whole, before) {
			t.Errorf("Parse(%q) changes its bytes", b)
		}
	}
	body, whole, before := within(make([]byte, 1505))
	expectBad(t, api.Frame{Body: body})
	frame.Tagged(api.Frame{Body: body}, 0)
	if !bytes.Equal(whole, before) {
		t.Error("a Body that is too long is changed")
	}
}

// randomFrame is a good frame, often one at an edge.
func randomFrame(play *rand.Rand) api.Frame {
	f := api.Frame{
		Dst:  play.Uint64() >> (16 + play.Intn(48)),
		Src:  play.Uint64() >> (16 + play.Intn(48)) &^ (1 << 40),
		Kind: []int{0, 39, 1536, 2048, 33023, 33025, 65535, play.Intn(33024)}[play.Intn(8)],
	}
	room := 1504
	if play.Intn(2) == 0 {
		f.Tag, f.Prio, room = true, play.Intn(8), 1500
		f.Vid = []int{0, 1, 4094, 4095, play.Intn(4096)}[play.Intn(5)]
	}
	f.Body = make([]byte, []int{0, 1, room - 1, room, play.Intn(room)}[play.Intn(5)])
	play.Read(f.Body)
	return f
}

// spelt is f's bytes, put down another way than the program does it.
func spelt(f api.Frame) []byte {
	b := make([]byte, 18)
	binary.BigEndian.PutUint64(b, f.Dst<<16)
	binary.BigEndian.PutUint64(b[6:], f.Src<<16)
	at := 12
	if f.Tag {
		binary.BigEndian.PutUint32(b[12:], 0x81000000|uint32(f.Prio)<<13|uint32(f.Vid))
		at = 16
	}
	binary.BigEndian.PutUint16(b[at:], uint16(f.Kind))
	return append(b[:at+2], f.Body...)
}

// P10.3: frames, as bytes and back.
func TestThereAndBack(t *testing.T) {
	play := rand.New(rand.NewSource(10))
	for range 5000 {
		f := randomFrame(play)
		if b := expectGood(t, f); !bytes.Equal(b, spelt(f)) {
			t.Fatalf("Encode(%+v) is %x", f, b)
		}
	}
}

// P10.3: a tag that is put on and taken off leaves the frame as it was; taken
// off and put on, it leaves it but for the Prio.
func TestTagThereAndBack(t *testing.T) {
	play := rand.New(rand.NewSource(103))
	for range 5000 {
		f := randomFrame(play)
		f.Body = f.Body[:min(len(f.Body), 1500)]
		vid := 1 + play.Intn(4094)
		g, errno := frame.Tagged(f, vid)
		if errno != api.OK {
			t.Fatal(errno)
		}
		expectGood(t, g)
		if !same(frame.Bare(g), frame.Bare(f)) || !f.Tag && !same(frame.Bare(g), f) {
			t.Fatalf("%+v, tagged and bare: %+v", f, frame.Bare(g))
		}
		expectGood(t, frame.Bare(g))
		if again, _ := frame.Tagged(g, vid); !same(again, g) {
			t.Fatalf("tagged twice: %+v", again)
		}
		again, _ := frame.Tagged(frame.Bare(g), vid)
		again.Prio = g.Prio
		if !same(again, g) {
			t.Fatalf("%+v, bare and tagged: %+v", g, again)
		}
	}
}

// P10.1, P10.3: whatever bytes are handed in are a frame's if, and only if,
// they are that frame's bytes.
func TestParsePlay(t *testing.T) {
	play := rand.New(rand.NewSource(101))
	good, bad := 0, 0
	for range 100000 {
		f := randomFrame(play)
		f.Body = f.Body[:min(len(f.Body), play.Intn(8))]
		b := spelt(f)
		for range play.Intn(3) {
			b[play.Intn(len(b))] = []byte{0, 1, 0x10, 0x81, 0xff, byte(play.Intn(256))}[play.Intn(6)]
		}
		b = b[:len(b)-play.Intn(2)*play.Intn(len(b)+1)]
		g, errno := frame.Parse(b)
		if errno != api.OK {
			bad++
			expectForm(t, b)
			if isFrame(b) {
				t.Fatalf("Parse(%x): %v", b, errno)
			}
			continue
		}
		good++
		if !isFrame(b) || !frame.Good(g) || !bytes.Equal(spelt(g), b) {
			t.Fatalf("Parse(%x) is %+v", b, g)
		}
	}
	if good < 1000 || bad < 1000 {
		t.Error("only so many were frames, and not:", good, bad)
	}
}

// isFrame tells by the bytes alone whether they are a frame's.
func isFrame(b []byte) bool {
	if len(b) < 14 || len(b) > 1518 || b[6]&1 != 0 {
		return false
	}
	if b[12] != 0x81 || b[13] != 0 {
		return true
	}
	return len(b) >= 18 && b[14]&0x10 == 0 && (b[16] != 0x81 || b[17] != 0)
}
