package snap_test

import (
	"bytes"
	"math"
	"math/rand"
	"slices"
	"testing"

	"weirgate/api"
	"weirgate/entry"
	"weirgate/sector"
	"weirgate/snap"
)

// The calls have exactly these signatures.
var (
	_ func(*sector.Disk, uint32, []byte) api.Errno   = snap.Save
	_ func(*sector.Disk) (uint32, []byte, api.Errno) = snap.Load
)

const (
	first  = 0
	second = 16
	most   = 993 // bytes: with 15 more, 16 pieces of 63
)

func newDisk(t *testing.T, n int) *sector.Disk {
	t.Helper()
	d, e := sector.New(n)
	if e != api.OK {
		t.Fatalf("New(%d) is %v", n, e)
	}
	return d
}

// text is n bytes that hang on n and on seed.
func text(n int, seed byte) []byte {
	b := make([]byte, n)
	for i := range b {
		b[i] = byte(i*11+i/256+n) + seed
	}
	return b
}

func save(t *testing.T, d *sector.Disk, epoch uint32, b []byte) {
	t.Helper()
	if e := snap.Save(d, epoch, b); e != api.OK {
		t.Fatalf("Save of epoch %d, %d bytes is %v", epoch, len(b), e)
	}
	if d.Pending() != 0 {
		t.Fatalf("%d pending behind Save", d.Pending())
	}
}

func loads(t *testing.T, name string, d *sector.Disk, epoch uint32, b []byte) {
	t.Helper()
	x, got, e := snap.Load(d)
	if e != api.OK || x != epoch || !bytes.Equal(got, b) {
		t.Errorf("%s: Load is %d, %.20q of %d bytes, %v, not %d, %.20q of %d", name, x, got, len(got), e, epoch, b, len(b))
	}
}

func fails(t *testing.T, name string, d *sector.Disk, want api.Errno) {
	t.Helper()
	if x, b, e := snap.Load(d); x != 0 || len(b) != 0 || e != want {
		t.Errorf("%s: Load is %d, %q, %v, not %v", name, x, b, e, want)
	}
}

// image is what is read of all sectors.
func image(d *sector.Disk) [][api.Sector]byte {
	l := make([][api.Sector]byte, d.Len())
	for i := range l {
		l[i], _ = d.Read(i)
	}
	return l
}

func encode(t *testing.T, kind int, epoch, seq uint32, b []byte) [][api.Sector]byte {
	t.Helper()
	s, e := entry.Encode(entry.Entry{Kind: kind, Epoch: epoch, Seq: seq, B: b})
	if e != api.OK {
		t.Fatalf("Encode is %v", e)
	}
	return s
}

// write writes sectors one behind the other, not flushed.
func write(t *testing.T, d *sector.Disk, at int, s [][api.Sector]byte) {
	t.Helper()
	for i := range s {
		if e := d.Write(at+i, s[i]); e != api.OK {
			t.Fatalf("Write(%d) is %v", at+i, e)
		}
	}
}

// saved is an image in which a snapshot was laid at a place, and nothing else
// touched.
func saved(t *testing.T, was [][api.Sector]byte, at int, epoch uint32, b []byte) [][api.Sector]byte {
	t.Helper()
	l := slices.Clone(was)
	copy(l[at:], encode(t, 2, epoch, 0, b))
	return l
}

// full is a disk whose every byte stands for its sector, and has no mark of an
// entry's.
func full(t *testing.T, n int) *sector.Disk {
	t.Helper()
	d := newDisk(t, n)
	for i := range n {
		var s [api.Sector]byte
		for k := range s {
			s[k] = 0x80 + byte(i%0x70)
		}
		write(t, d, i, [][api.Sector]byte{s})
	}
	d.Flush()
	return d
}

func TestSize(t *testing.T) {
	const size int = snap.Size
	if size != 16 {
		t.Errorf("Size is %d", size)
	}
}

// P7.1: without a snapshot there is none.
func TestNone(t *testing.T) {
	fails(t, "a new disk", newDisk(t, 32), api.ErrNone)
	fails(t, "a disk of other bytes", full(t, 40), api.ErrNone)
}

// P7.1: the bytes of a snapshot, written out by hand.
func TestBytesByHand(t *testing.T) {
	d := newDisk(t, 32)
	save(t, d, 1, []byte("a"))
	save(t, d, 2, nil)
	want := make([][api.Sector]byte, 32)
	copy(want[first][:], "\x57\x02\x00\x00\x00\x01\x00\x00\x00\x00\x00\x01a\x00\x8f\x00\x66")
	copy(want[second][:], "\x57\x02\x00\x00\x00\x02\x00\x00\x00\x00\x00\x00\x00\x2f\x00\x05")
	if !slices.Equal(image(d), want) {
		t.Errorf("sectors are % x, % x", image(d)[first], image(d)[second])
	}
	loads(t, "the second one", d, 2, nil)
}

// P7.1: Saves one behind the other go into the two places by turns, and touch
// no other sector; each is what is told, also behind a crash.
func TestTurns(t *testing.T) {
	for _, size := range []int{32, 33, 40, api.MaxDisk} {
		d := full(t, size)
		for i, n := range []int{100, 0, 993, 1, 48, 49, 111, 112, 992, 500, 0, 993, 993, 7} {
			at := []int{first, second}[i%2]
			epoch, b := uint32(1+i*i), text(n, byte(i))
			want := saved(t, image(d), at, epoch, b)
			save(t, d, epoch, b)
			if !slices.Equal(image(d), want) {
				t.Errorf("of %d: Save %d is not at %d, or touches others", size, i, at)
			}
			loads(t, "saved", d, epoch, b)
			d.Crash()
			loads(t, "behind a crash", d, epoch, b)
		}
	}
}

// P7.1: many Saves, by turns.
func TestMany(t *testing.T) {
	d := newDisk(t, 48)
	for i := range 3000 {
		b := text(i%(most+1), byte(i))
		save(t, d, uint32(i), b)
		loads(t, "one of many", d, uint32(i), b)
		s, _ := d.Read([]int{first, second}[i%2])
		if s != encode(t, 2, uint32(i), 0, b)[0] {
			t.Fatalf("Save %d is not at its place", i)
		}
	}
}

// P7.1: each length that a place has room for; then one byte more, then what no
// entry has room for.
func TestLengths(t *testing.T) {
	d := newDisk(t, 32)
	for n := range most + 1 {
		save(t, d, uint32(n), text(n, 3))
		loads(t, "a length", d, uint32(n), text(n, 3))
	}
	if n := entry.Need(most); n != snap.Size {
		t.Errorf("%d bytes need %d sectors", most, n)
	}
	for _, n := range []int{most + 1, most + 2, most + 63, 2008, 3999, 4000, 4001, 4993, 65535, 65536, 65537, 65536 + most, 1 << 20} {
		refused(t, d, api.ErrLong, most+1, make([]byte, n))
		loads(t, "behind what is too long", d, most, text(most, 3))
	}
}

// refused asks for an error, and that it changes nothing: neither what is read,
// nor what is pending.
func refused(t *testing.T, d *sector.Disk, want api.Errno, epoch uint32, b []byte) {
	t.Helper()
	for i := range d.Len() {
		s, _ := d.Read(i)
		d.Write(i, s)
	}
	was, pending := image(d), d.Pending()
	if e := snap.Save(d, epoch, b); e != want {
		t.Errorf("Save of %d bytes on %d sectors is %v, not %v", len(b), d.Len(), e, want)
	}
	if !slices.Equal(image(d), was) || d.Pending() != pending {
		t.Errorf("Save of %d bytes on %d sectors is refused, and changes the disk", len(b), d.Len())
	}
	d.Crash()
}

// P7.1: a disk that is not there, that nobody made, or that is too small, is
// said ahead of bytes that are too long.
func TestDisks(t *testing.T) {
	for _, size := range []int{1, 2, 15, 16, 17, 24, 30, 31} {
		d := newDisk(t, size)
		fails(t, "too small", d, api.ErrArg)
		write(t, d, 0, encode(t, 2, 5, 0, []byte("a")))
		fails(t, "too small, with an entry", d, api.ErrArg)
		for _, n := range []int{0, 1, most, most + 1, 4001, 1 << 17} {
			refused(t, d, api.ErrArg, 1, make([]byte, n))
		}
	}
	for _, d := range []*sector.Disk{nil, {}} {
		fails(t, "no disk", d, api.ErrArg)
		for _, n := range []int{0, 1, most, most + 1, 4001, 1 << 17} {
			refused(t, d, api.ErrArg, 1, make([]byte, n))
		}
	}
	for _, size := range []int{32, 33, 64, api.MaxDisk} {
		d := newDisk(t, size)
		fails(t, "large enough", d, api.ErrNone)
		save(t, d, 1, text(most, 1))
		save(t, d, 2, text(most, 2))
		loads(t, "large enough", d, 2, text(most, 2))
	}
}

// P7.1: no bytes are a snapshot too, whether nil or empty.
func TestNoBytes(t *testing.T) {
	for _, b := range [][]byte{nil, {}, make([]byte, 0, 100)} {
		d := newDisk(t, 32)
		save(t, d, 4, b)
		loads(t, "no bytes", d, 4, nil)
		save(t, d, 5, []byte("a"))
		save(t, d, 6, b)
		loads(t, "no bytes behind some", d, 6, nil)
	}
}

// P7.1: any epoch may be; the newest one is that of the greater number, however
// great it is.
func TestEpochs(t *testing.T) {
	rising := []uint32{0, 1, 2, 255, 256, 65535, 65536, 1<<24 - 1, 1 << 24, 1<<31 - 1, 1 << 31, math.MaxUint32 - 1, math.MaxUint32}
	for i, low := range rising {
		d := newDisk(t, 32)
		save(t, d, low, []byte("low"))
		loads(t, "one", d, low, []byte("low"))
		for _, high := range rising[i+1:] {
			d := newDisk(t, 32)
			save(t, d, low, []byte("low"))
			save(t, d, high, []byte("high"))
			loads(t, "rising", d, high, []byte("high"))
			d = newDisk(t, 32)
			save(t, d, high, []byte("high"))
			save(t, d, low, []byte("low"))
			loads(t, "falling", d, high, []byte("high"))
		}
	}
}

// step is a Save and what it does: the place it goes into, and which epoch is
// the newest one behind it, and from which Save (from 0).
type step struct {
	epoch  uint32
	at     int
	newest int
}

// P7.1: a Save goes into the place that does not have the newest snapshot, and
// of two of one epoch the first place's is the newest one.
func TestWhichPlace(t *testing.T) {
	const top = math.MaxUint32
	for name, steps := range map[string][]step{
		"rising":                  {{1, first, 0}, {2, second, 1}, {3, first, 2}, {4, second, 3}},
		"elder ones":              {{9, first, 0}, {3, second, 0}, {8, second, 0}, {0, second, 0}, {10, second, 4}, {5, first, 4}},
		"elder than the second":   {{1, first, 0}, {9, second, 1}, {0, first, 1}, {8, first, 1}, {10, first, 4}, {9, second, 4}},
		"alike, then newer":       {{5, first, 0}, {5, second, 0}, {5, second, 0}, {6, second, 3}, {6, first, 4}, {6, second, 4}},
		"alike at the second":     {{4, first, 0}, {5, second, 1}, {5, first, 2}, {5, second, 2}, {4, second, 2}},
		"all 0":                   {{0, first, 0}, {0, second, 0}, {0, second, 0}, {1, second, 3}, {0, first, 3}},
		"all of the greatest":     {{top, first, 0}, {top, second, 0}, {top, second, 0}, {0, second, 0}},
		"the greatest, then less": {{top - 1, first, 0}, {top, second, 1}, {0, first, 1}, {top, first, 3}, {1, second, 3}},
	} {
		d := full(t, 36)
		for i, x := range steps {
			b := text(60*i, byte(i))
			want := saved(t, image(d), x.at, x.epoch, b)
			save(t, d, x.epoch, b)
			if !slices.Equal(image(d), want) {
				t.Errorf("%s: Save %d is not at %d, or touches others", name, i, x.at)
			}
			loads(t, name, d, steps[x.newest].epoch, text(60*x.newest, byte(x.newest)))
		}
	}
}

// P7.1: what stands at the two places, however it came there, says which is the
// newest snapshot, and where the next one goes.
func TestWhatStands(t *testing.T) {
	type stands struct {
		name   string
		s      [][api.Sector]byte
		is     bool
		epoch  uint32
		length int
	}
	snapshot := func(epoch uint32, n int) stands {
		return stands{"a snapshot", encode(t, 2, epoch, 0, text(n, 1)), true, epoch, n}
	}
	turned := encode(t, 2, 9, 0, text(300, 1))
	turned[3][9] ^= 4
	late := append(make([][api.Sector]byte, 1), encode(t, 2, 9, 0, text(20, 1))...)
	all := []stands{
		{name: "nothing"},
		snapshot(5, 0), snapshot(5, 100), snapshot(6, most), snapshot(0, 30), snapshot(math.MaxUint32, 30),
		{name: "kind 0", s: encode(t, 0, 9, 0, nil)},
		{name: "kind 1", s: encode(t, 1, 9, 0, text(100, 1))},
		{name: "kind 3", s: encode(t, 3, 9, 0, nil)},
		{name: "kind 255", s: encode(t, 255, 9, 0, nil)},
		{name: "sequence 1", s: encode(t, 2, 9, 1, text(100, 1))},
		{name: "sequence 2^31", s: encode(t, 2, 9, 1<<31, nil)},
		{name: "the greatest sequence", s: encode(t, 2, 9, math.MaxUint32, nil)},
		{name: "a byte turned", s: turned},
		{name: "its end lost", s: encode(t, 2, 9, 0, text(300, 1))[:4]},
		{name: "its beginning lost", s: encode(t, 2, 9, 0, text(300, 1))[1:]},
		{name: "one that begins later", s: late},
	}
	for _, a := range all {
		for _, b := range all {
			name := a.name + ", then " + b.name
			d := newDisk(t, 40)
			write(t, d, first, a.s)
			write(t, d, second, b.s)
			d.Flush()
			at := first
			switch {
			case a.is && (!b.is || a.epoch >= b.epoch):
				at = second
				loads(t, name, d, a.epoch, text(a.length, 1))
			case b.is:
				loads(t, name, d, b.epoch, text(b.length, 1))
			default:
				fails(t, name, d, api.ErrNone)
			}
			want := saved(t, image(d), at, math.MaxUint32, text(200, 7))
			save(t, d, math.MaxUint32, text(200, 7))
			if !slices.Equal(image(d), want) {
				t.Errorf("%s: Save is not at %d", name, at)
			}
		}
	}
}

// P7.1: an entry that goes on behind its place is no snapshot, though it is
// whole.
func TestBeyondItsPlace(t *testing.T) {
	for _, n := range []int{most + 1, most + 63, 1100, 2001, 4000} {
		long := encode(t, 2, 9, 0, text(n, 1))
		d := newDisk(t, 100)
		write(t, d, first, long)
		d.Flush()
		fails(t, "at the first place", d, api.ErrNone)
		save(t, d, 3, []byte("a"))
		loads(t, "over it", d, 3, []byte("a"))
		if s, _ := d.Read(first); s != encode(t, 2, 3, 0, []byte("a"))[0] {
			t.Errorf("%d bytes: Save is not at the first place", n)
		}

		d = newDisk(t, 100)
		save(t, d, 3, []byte("a"))
		write(t, d, second, long)
		d.Flush()
		loads(t, "at the second place", d, 3, []byte("a"))
		save(t, d, 4, []byte("b"))
		loads(t, "over it", d, 4, []byte("b"))
		if s, _ := d.Read(second); s != encode(t, 2, 4, 0, []byte("b"))[0] {
			t.Errorf("%d bytes: Save is not at the second place", n)
		}
	}
}

// P7.1: a snapshot anywhere but at a place's first sector is none.
func TestElsewhere(t *testing.T) {
	for i := range 48 {
		d := newDisk(t, 48)
		write(t, d, i, encode(t, 2, 9, 0, []byte("a")))
		if i == first || i == second {
			loads(t, "at a place", d, 9, []byte("a"))
		} else {
			fails(t, "elsewhere", d, api.ErrNone)
		}
	}
}

// P7.1: what is read is what was written last, whether or not it is flushed;
// Load neither writes nor flushes.
func TestPendingWrites(t *testing.T) {
	d := newDisk(t, 32)
	save(t, d, 1, []byte("a"))
	write(t, d, second, encode(t, 2, 7, 0, text(200, 1)))
	pending, was := d.Pending(), image(d)
	for range 3 {
		loads(t, "pending", d, 7, text(200, 1))
		if d.Pending() != pending || !slices.Equal(image(d), was) {
			t.Fatal("Load changes the disk")
		}
	}
	save(t, d, 8, []byte("b"))
	want := saved(t, was, first, 8, []byte("b"))
	if !slices.Equal(image(d), want) {
		t.Error("Save is not at the first place")
	}
	d.Crash()
	if !slices.Equal(image(d), want) {
		t.Error("Save leaves writes that a crash loses")
	}
}

// What is handed in is not changed, its spare room included, and not kept; what
// is told is new memory.
func TestMemory(t *testing.T) {
	d := newDisk(t, 32)
	room := text(800, 1)
	b := room[100:300]
	save(t, d, 1, b)
	save(t, d, 2, b)
	if !bytes.Equal(room, text(800, 1)) {
		t.Fatal("Save changes what it is given")
	}
	want := slices.Clone(b)
	for i := range room {
		room[i] = 0xee
	}
	loads(t, "what was handed in is changed", d, 2, want)
	_, x, _ := snap.Load(d)
	_, y, _ := snap.Load(d)
	for i, l := 0, x[:cap(x)]; i < len(l); i++ {
		l[i] = 0xdd
	}
	if !bytes.Equal(y, want) {
		t.Error("two answers share memory")
	}
	loads(t, "what was told is changed", d, 2, want)
	save(t, d, 3, x)
	for i := range x {
		x[i] = 0xcc
	}
	loads(t, "what was told is saved", d, 3, bytes.Repeat([]byte{0xdd}, len(want)))
}

// Two disks have nothing in common.
func TestTwoDisks(t *testing.T) {
	a, b := newDisk(t, 32), newDisk(t, 32)
	save(t, a, 1, []byte("a"))
	fails(t, "the other one", b, api.ErrNone)
	save(t, b, 1, []byte("b"))
	save(t, b, 2, []byte("c"))
	loads(t, "a", a, 1, []byte("a"))
	loads(t, "b", b, 2, []byte("c"))
}

// model is the chapter's words by another way: what stands at each place.
type model [2]struct {
	is    bool
	epoch uint32
	b     []byte
}

// newest is the place's number, or -1.
func (m *model) newest() int {
	switch {
	case !m[0].is && !m[1].is:
		return -1
	case !m[0].is || m[1].is && m[1].epoch > m[0].epoch:
		return 1
	}
	return 0
}

// P7.1, P7.2: long plays of Saves of any epochs, of what is refused, of crashes
// and of places that are spoiled, beside the model.
func TestPlays(t *testing.T) {
	for seed := range int64(150) {
		r := rand.New(rand.NewSource(seed))
		d := newDisk(t, 32+r.Intn(20))
		var m model
		for range 60 {
			switch x := r.Intn(10); {
			case x < 7:
				epoch, b := uint32(r.Intn(6)), text(r.Intn(1+r.Intn(most+1)), byte(r.Intn(256)))
				save(t, d, epoch, b)
				p := 0
				if m.newest() == 0 {
					p = 1
				}
				m[p].is, m[p].epoch, m[p].b = true, epoch, b
			case x < 8:
				if e := snap.Save(d, 9, make([]byte, most+1+r.Intn(5000))); e != api.ErrLong {
					t.Fatalf("seed %d: Save is %v", seed, e)
				}
			case x < 9:
				d.Crash(r.Intn(2) == 0, r.Intn(2) == 0)
			default:
				p := r.Intn(2)
				d.Write(p*second, [api.Sector]byte{})
				d.Flush()
				m[p].is = false
			}
			if p := m.newest(); p >= 0 {
				loads(t, "a play", d, m[p].epoch, m[p].b)
			} else {
				fails(t, "a play", d, api.ErrNone)
			}
		}
		if t.Failed() {
			t.Fatalf("seed %d", seed)
		}
	}
}
