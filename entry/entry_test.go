package entry_test

import (
	"encoding/binary"
	"math"
	"math/rand"
	"slices"
	"testing"

	"weirgate/api"
	"weirgate/entry"
	"weirgate/tally"
)

// The calls have exactly these signatures, Entry exactly these fields.
var (
	_ func(entry.Entry) ([][api.Sector]byte, api.Errno)      = entry.Encode
	_ func([][api.Sector]byte) (entry.Entry, int, api.Errno) = entry.Decode
	_ func(int) int                                          = entry.Need
	_                                                        = struct {
		Kind       int
		Epoch, Seq uint32
		B          []byte
	}(entry.Entry{})
)

// sizes of B: none and few, those at which the last sector is full (48 and 63
// more each) with their neighbours, and the greatest ones.
var sizes = []int{0, 1, 2, 47, 48, 49, 50, 110, 111, 112, 173, 174, 175, 255, 256, 257, 1000, 3953, 3954, 3955, 3999, 4000}

func body(n int) []byte {
	b := make([]byte, n)
	for i := range b {
		b[i] = byte(i*7 + i/256 + 3)
	}
	return b
}

func sample(n int) entry.Entry {
	return entry.Entry{Kind: n % 256, Epoch: uint32(n)*0x01030507 + 0x89abcdef, Seq: ^uint32(n) * 77, B: body(n)}
}

// form is an entry's bytes without their sum, with any length told.
func form(e entry.Entry, told int) []byte {
	b := []byte{byte(e.Kind)}
	b = binary.BigEndian.AppendUint32(b, e.Epoch)
	b = binary.BigEndian.AppendUint32(b, e.Seq)
	b = binary.BigEndian.AppendUint16(b, uint16(told))
	return append(b, e.B...)
}

func summed(b []byte) []byte {
	return binary.BigEndian.AppendUint32(slices.Clone(b), tally.Sum(b))
}

// laid is bytes in sectors; the last one has bytes 0 up to its end.
func laid(b []byte) [][api.Sector]byte {
	s := make([][api.Sector]byte, (len(b)+62)/63)
	for i := range s {
		s[i][0] = 0x77
	}
	s[0][0] = 0x57
	for i, x := range b {
		s[i/63][1+i%63] = x
	}
	return s
}

func encode(t *testing.T, e entry.Entry) [][api.Sector]byte {
	t.Helper()
	s, f := entry.Encode(e)
	if f != api.OK {
		t.Fatalf("Encode of %d bytes is %v", len(e.B), f)
	}
	return s
}

func same(a, b entry.Entry) bool {
	return a.Kind == b.Kind && a.Epoch == b.Epoch && a.Seq == b.Seq && slices.Equal(a.B, b.B)
}

// finds asks for an entry of n sectors at the first of s.
func finds(t *testing.T, name string, s [][api.Sector]byte, want entry.Entry, n int) {
	t.Helper()
	e, k, f := entry.Decode(s)
	if f != api.OK || k != n || !same(e, want) {
		t.Errorf("%s: Decode is %v, %d sectors, %v", name, e, k, f)
	}
}

// none asks for ErrForm, and for nothing beside it.
func none(t *testing.T, name string, s [][api.Sector]byte) {
	t.Helper()
	e, k, f := entry.Decode(s)
	if f != api.ErrForm || k != 0 || !same(e, entry.Entry{}) {
		t.Errorf("%s: Decode is %v, %d sectors, %v", name, e, k, f)
	}
}

// P3.1: 15 bytes beside B, by pieces of 63.
func TestNeed(t *testing.T) {
	for _, x := range []struct{ n, want int }{
		{0, 1}, {1, 1}, {47, 1}, {48, 1}, {49, 2}, {110, 2}, {111, 2}, {112, 3}, {3954, 63}, {3955, 64}, {3999, 64}, {4000, 64},
		{-1, 0}, {-48, 0}, {-4000, 0}, {math.MinInt, 0}, {4001, 0}, {4017, 0}, {65535, 0}, {math.MaxInt, 0},
	} {
		if n := entry.Need(x.n); n != x.want {
			t.Errorf("Need(%d) is %d, not %d", x.n, n, x.want)
		}
	}
	for n := range 4001 {
		if entry.Need(n) != len(laid(make([]byte, 15+n))) {
			t.Errorf("Need(%d) is %d", n, entry.Need(n))
		}
	}
}

// P3.1: the bytes, written out.
func TestEncodeBytes(t *testing.T) {
	s := encode(t, entry.Entry{Kind: 0xfe, Epoch: 0x01020304, Seq: 0xa5b6c7d8, B: []byte("gate")})
	// The sum of the 15 bytes ahead of it: A is 1448, B is 11393.
	want := [api.Sector]byte{0x57, 0xfe, 1, 2, 3, 4, 0xa5, 0xb6, 0xc7, 0xd8, 0, 4, 'g', 'a', 't', 'e', 0x2c, 0x81, 0x05, 0xa8}
	if len(s) != 1 || s[0] != want {
		t.Errorf("Encode is % x", s)
	}
	s = encode(t, entry.Entry{})
	want = [api.Sector]byte{0x57, 0, 0, 0, 0, 0, 0, 0, 0, 0, 0, 0, 0, 11, 0, 1}
	if len(s) != 1 || s[0] != want {
		t.Errorf("Encode of no bytes is % x", s)
	}
}

// P3.1: of each size the sectors are those of the form, as many as Need says.
func TestEncode(t *testing.T) {
	for _, n := range sizes {
		e := sample(n)
		s := encode(t, e)
		if !slices.Equal(s, laid(summed(form(e, n)))) {
			t.Errorf("Encode of %d bytes is % x", n, s)
		}
		if len(s) != entry.Need(n) {
			t.Errorf("Encode of %d bytes has %d sectors, Need says %d", n, len(s), entry.Need(n))
		}
	}
}

// P3.1: the edges of Kind and of B's length; ErrForm is ahead of ErrLong.
func TestEncodeEdges(t *testing.T) {
	for _, x := range []struct {
		kind, size int
		want       api.Errno
	}{
		{0, 0, api.OK}, {1, 3, api.OK}, {254, 3, api.OK}, {255, 4000, api.OK}, {0, 3999, api.OK},
		{-1, 0, api.ErrForm}, {256, 0, api.ErrForm}, {257, 3, api.ErrForm}, {-255, 3, api.ErrForm}, {-256, 3, api.ErrForm}, {512, 4000, api.ErrForm},
		{math.MaxInt, 1, api.ErrForm}, {math.MinInt, 1, api.ErrForm},
		{0, 4001, api.ErrLong}, {255, 4001, api.ErrLong}, {1, 4002, api.ErrLong}, {1, 65535, api.ErrLong}, {1, 65536, api.ErrLong}, {1, 65540, api.ErrLong}, {1, 1 << 20, api.ErrLong},
		{-1, 4001, api.ErrForm}, {256, 4001, api.ErrForm}, {256, 1 << 20, api.ErrForm},
	} {
		e := entry.Entry{Kind: x.kind, Epoch: 9, Seq: 8, B: body(x.size)}
		s, f := entry.Encode(e)
		if f != x.want || f != api.OK && len(s) != 0 {
			t.Errorf("Encode of kind %d and %d bytes is %d sectors, %v, not %v", x.kind, x.size, len(s), f, x.want)
		}
		if x.want == api.OK {
			finds(t, "an edge", s, e, entry.Need(x.size))
		}
	}
}

// P3.2: Decode of Encode is the entry, whatever stands behind its sectors.
func TestDecodeOfEncode(t *testing.T) {
	noise := make([][api.Sector]byte, 70)
	for i := range noise {
		for at := range noise[i] {
			noise[i][at] = byte(i*at + 0x77)
		}
	}
	for _, n := range sizes {
		e := sample(n)
		s := encode(t, e)
		finds(t, "alone", s, e, len(s))
		finds(t, "ahead of an empty sector", slices.Concat(s, make([][api.Sector]byte, 1)), e, len(s))
		finds(t, "ahead of a later sector", slices.Concat(s, [][api.Sector]byte{{0x77}}), e, len(s))
		finds(t, "ahead of itself", slices.Concat(s, s), e, len(s))
		finds(t, "ahead of noise", slices.Concat(s, noise), e, len(s))
	}
	for k := range 256 {
		e := entry.Entry{Kind: k, Epoch: uint32(k) << 24, Seq: math.MaxUint32 - uint32(k), B: []byte{byte(k)}}
		finds(t, "each kind", encode(t, e), e, 1)
	}
}

// P3.2: each number's bytes come back at their places, in all sizes.
func TestDecodeOfEncodeAnyEntry(t *testing.T) {
	r := rand.New(rand.NewSource(3))
	for range 2000 {
		e := entry.Entry{Kind: r.Intn(256), Epoch: r.Uint32(), Seq: r.Uint32(), B: make([]byte, r.Intn(4001))}
		r.Read(e.B)
		s := encode(t, e)
		finds(t, "any entry", s, e, entry.Need(len(e.B)))
		i, at, by := r.Intn(len(s)), r.Intn(api.Sector), byte(1+r.Intn(255))
		if i == 0 && (at == 10 || at == 11) {
			continue
		}
		s[i][at] ^= by
		none(t, "any entry, a byte turned", s)
	}
}

// P3.2: with any one byte turned, but the two of the length, it is none.
func TestOneByteTurned(t *testing.T) {
	for _, n := range sizes {
		s := encode(t, sample(n))
		for i := range s {
			for at := range s[i] {
				if i == 0 && (at == 10 || at == 11) {
					continue
				}
				for _, by := range turns(len(s)) {
					s[i][at] ^= by
					if _, _, f := entry.Decode(s); f != api.ErrForm {
						t.Fatalf("of %d bytes: byte %d of sector %d turned by %x: %v", n, at, i, by, f)
					}
					s[i][at] ^= by
				}
			}
		}
		finds(t, "all turned back", s, sample(n), len(s))
	}
}

// turns is by what a byte is turned: all there are, where the entry is short.
func turns(sectors int) []byte {
	if sectors > 3 {
		return []byte{0x01, 0x80, 0xff}
	}
	var l []byte
	for by := 1; by < 256; by++ {
		l = append(l, byte(by))
	}
	return l
}

// P3.1: there is no entry where a sector is missing.
func TestTooFewSectors(t *testing.T) {
	none(t, "nil", nil)
	none(t, "no sectors", [][api.Sector]byte{})
	for _, n := range sizes {
		s := encode(t, sample(n))
		for k := range len(s) {
			none(t, "cut off", s[:k:k])
		}
		// What is missing stands in the spare room, which is not a part of s.
		none(t, "one fewer", s[:len(s)-1])
	}
}

// P3.1: the byte ahead of each piece is 57 for the first one, 77 for all others.
func TestMarks(t *testing.T) {
	s := encode(t, sample(1000))
	for i := range s {
		was := s[i][0]
		for x := range 256 {
			s[i][0] = byte(x)
			if byte(x) != was {
				none(t, "another mark", s)
			}
		}
		s[i][0] = was
	}
	finds(t, "its own marks", s, sample(1000), len(s))
	none(t, "from the second sector on", s[1:])
	s[0][0], s[1][0] = s[1][0], s[0][0]
	none(t, "marks exchanged", s)
	none(t, "empty sectors", make([][api.Sector]byte, 3))
	none(t, "a mark alone", [][api.Sector]byte{{0x57}, {0x77}})
}

// P3.1: bytes behind the entry, up to its last sector's end, are 0, also if the
// sum would hold.
func TestBehindTheEntry(t *testing.T) {
	for _, n := range sizes {
		e := sample(n)
		s := encode(t, e)
		last := &s[len(s)-1]
		for at := 1 + (15+n-1)%63 + 1; at < api.Sector; at++ {
			for _, x := range []byte{1, 0x57, 0x77, 0x80, 0xff} {
				last[at] = x
				none(t, "a byte behind", s)
			}
			last[at] = 0
		}
		finds(t, "no byte behind", s, e, len(s))
	}
	e := sample(5)
	none(t, "an entry behind it in its sector", laid(slices.Concat(summed(form(e, 5)), summed(form(e, 5)))))
}

// P3.1: no entry has more than 4000 bytes, or another length than its own,
// also if all its bytes and its sum are there.
func TestLengths(t *testing.T) {
	for _, n := range []int{4001, 4002, 4017, 4018, 5000, 32767, 32768, 65535} {
		e := entry.Entry{Kind: 1, B: body(n)}
		none(t, "too long", laid(summed(form(e, n))))
	}
	e := entry.Entry{Kind: 1, Epoch: 2, Seq: 3, B: body(4000)}
	finds(t, "the greatest", laid(summed(form(e, 4000))), e, 64)
	for _, n := range []int{1, 48, 49, 200} {
		e := entry.Entry{Kind: 1, Epoch: 2, Seq: 3, B: body(n)}
		none(t, "told one fewer", laid(summed(form(e, n-1))))
		none(t, "told one more", append(laid(summed(form(e, n+1))), [api.Sector]byte{0x77}))
		none(t, "told 4001", slices.Concat(laid(summed(form(e, 4001))), make([][api.Sector]byte, 70)))
	}
}

// P3.1: the sum is of all bytes ahead of it, and of no others.
func TestSums(t *testing.T) {
	for _, n := range []int{0, 3, 48, 49, 500} {
		b := form(sample(n), n)
		for _, sum := range []uint32{0, 1, math.MaxUint32, tally.Sum(b) + 1, tally.Sum(b) - 1, tally.Sum(b[1:]), tally.Sum(b[11:]), tally.Sum([]byte{0x57}, b), tally.Sum(b)<<16 | tally.Sum(b)>>16, tally.Sum(b) + 65521} {
			none(t, "another sum", laid(binary.BigEndian.AppendUint32(slices.Clone(b), sum)))
		}
		finds(t, "its sum", laid(summed(b)), sample(n), entry.Need(n))
	}
}

// What is handed in is not changed, its spare room included, and not kept;
// what is told is new memory.
func TestMemory(t *testing.T) {
	for _, n := range sizes {
		room := body(n + 40)
		e := entry.Entry{Kind: 7, Epoch: 8, Seq: 9, B: room[:n]}
		s, other := encode(t, e), encode(t, e)
		if !slices.Equal(room, body(n+40)) {
			t.Fatalf("Encode of %d bytes changes what it is given", n)
		}
		room[0]++
		if !slices.Equal(s, other) {
			t.Fatalf("Encode of %d bytes keeps what it is given", n)
		}
		wipe(s[:cap(s)])
		want := entry.Entry{Kind: 7, Epoch: 8, Seq: 9, B: body(n)}
		finds(t, "another answer", other, want, len(other))

		given := append(slices.Clone(other), [api.Sector]byte{1, 2, 3}, [api.Sector]byte{0x57})
		was := slices.Clone(given)
		a, _, _ := entry.Decode(given[:len(other)])
		b, _, _ := entry.Decode(given[:len(other)])
		fill(a.B[:cap(a.B)])
		if !slices.Equal(given, was) || !same(b, want) {
			t.Fatalf("Decode of %d bytes shares memory", n)
		}
		wipe(given)
		if !same(b, want) {
			t.Fatalf("Decode of %d bytes keeps what it is given", n)
		}
	}
}

func wipe(s [][api.Sector]byte) {
	for i := range s {
		fill(s[i][:])
	}
}

func fill(b []byte) {
	for i := range b {
		b[i] = 0xee
	}
}

// No sectors whatever make Decode panic; what it finds in them is what Encode
// would lay there.
func TestAnySectors(t *testing.T) {
	r := rand.New(rand.NewSource(5))
	for range 20000 {
		s := make([][api.Sector]byte, r.Intn(5))
		for i := range s {
			r.Read(s[i][:])
			s[i][0] = 0x77
		}
		if len(s) > 0 {
			s[0][0] = 0x57
			s[0][10] = byte(r.Intn(2))
		}
		e, k, f := entry.Decode(s)
		if f == api.ErrForm && k == 0 && same(e, entry.Entry{}) {
			continue
		}
		if f != api.OK || k < 1 || k > len(s) || !slices.Equal(encode(t, e), s[:k]) {
			t.Fatalf("Decode of % x is %v, %d, %v", s, e, k, f)
		}
	}
}

func FuzzDecode(f *testing.F) {
	f.Add([]byte{})
	f.Add(summed(form(sample(100), 100)))
	f.Fuzz(func(t *testing.T, b []byte) {
		if len(b) == 0 {
			none(t, "nothing", nil)
			return
		}
		s := laid(b)
		e, k, errno := entry.Decode(s)
		if errno == api.OK && !slices.Equal(encode(t, e), s[:k]) {
			t.Fatalf("Decode of % x is %v", s, e)
		}
	})
}
