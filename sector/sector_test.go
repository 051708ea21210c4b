package sector_test

import (
	"math"
	"math/rand"
	"slices"
	"testing"

	"weirgate/api"
	"weirgate/sector"
)

// The calls have exactly these signatures.
var (
	_ func(int) (*sector.Disk, api.Errno)                   = sector.New
	_ func(*sector.Disk, int, [api.Sector]byte) api.Errno   = (*sector.Disk).Write
	_ func(*sector.Disk, int) ([api.Sector]byte, api.Errno) = (*sector.Disk).Read
	_ func(*sector.Disk) api.Errno                          = (*sector.Disk).Flush
	_ func(*sector.Disk, ...bool)                           = (*sector.Disk).Crash
	_ func(*sector.Disk) int                                = (*sector.Disk).Pending
	_ func(*sector.Disk) int                                = (*sector.Disk).Len
)

// full is a sector whose every byte hangs on n; full(0) is a new one.
func full(n int) [api.Sector]byte {
	var s [api.Sector]byte
	for i := range s {
		s[i] = byte(n * (i + 1))
	}
	return s
}

func newDisk(t *testing.T, n int) *sector.Disk {
	t.Helper()
	d, e := sector.New(n)
	if d == nil || e != api.OK {
		t.Fatalf("New(%d) is %v, %v", n, d, e)
	}
	return d
}

func write(t *testing.T, d *sector.Disk, i, n int) {
	t.Helper()
	before := d.Pending()
	if e := d.Write(i, full(n)); e != api.OK {
		t.Fatalf("Write(%d) is %v", i, e)
	}
	if d.Pending() != before+1 {
		t.Fatalf("Write(%d): %d pending, then %d", i, before, d.Pending())
	}
}

func flush(t *testing.T, d *sector.Disk) {
	t.Helper()
	if e := d.Flush(); e != api.OK {
		t.Fatalf("Flush is %v", e)
	}
	if d.Pending() != 0 {
		t.Fatalf("%d pending behind Flush", d.Pending())
	}
}

func crash(t *testing.T, d *sector.Disk, keep ...bool) {
	t.Helper()
	d.Crash(keep...)
	if d.Pending() != 0 {
		t.Fatalf("%d pending behind Crash", d.Pending())
	}
}

// holds asks for the numbers of all the disk's sectors, from 0 on.
func holds(t *testing.T, d *sector.Disk, want ...int) {
	t.Helper()
	if d.Len() != len(want) {
		t.Fatalf("Len is %d, not %d", d.Len(), len(want))
	}
	for i, n := range want {
		if s, e := d.Read(i); e != api.OK || s != full(n) {
			t.Errorf("Read(%d) is %v, %v, not %v", i, s, e, full(n))
		}
	}
}

// P2.1: a disk has 1 to MaxDisk sectors, at first of bytes 0, none pending.
func TestNew(t *testing.T) {
	for _, n := range []int{1, 2, 40, api.MaxDisk - 1, api.MaxDisk} {
		d := newDisk(t, n)
		if d.Pending() != 0 {
			t.Errorf("New(%d): %d pending", n, d.Pending())
		}
		holds(t, d, make([]int, n)...)
	}
	for _, n := range []int{0, -1, api.MaxDisk + 1, 2 * api.MaxDisk, math.MaxInt, math.MinInt} {
		if d, e := sector.New(n); d != nil || e != api.ErrArg {
			t.Errorf("New(%d) is %v, %v", n, d, e)
		}
	}
}

// P2.1: the first and the last sector are there; those beside them are not,
// and asking for them changes nothing.
func TestPlaces(t *testing.T) {
	for _, n := range []int{1, 5, api.MaxDisk} {
		d := newDisk(t, n)
		write(t, d, 0, 1)
		write(t, d, n-1, 2)
		want := make([]int, n)
		want[0] = 1
		want[n-1] = 2
		for _, i := range []int{-1, -n, n, n + 1, math.MaxInt, math.MinInt} {
			if e := d.Write(i, full(3)); e != api.ErrArg {
				t.Errorf("of %d: Write(%d) is %v", n, i, e)
			}
			if s, e := d.Read(i); s != full(0) || e != api.ErrArg {
				t.Errorf("of %d: Read(%d) is %v, %v", n, i, s, e)
			}
		}
		if d.Pending() != 2 {
			t.Errorf("of %d: %d pending", n, d.Pending())
		}
		holds(t, d, want...)
		flush(t, d)
		holds(t, d, want...)
	}
}

// P2.1: what is read is the last pending write of that sector, also if it is
// what was there, and however many there are.
func TestReadIsTheLastWrite(t *testing.T) {
	d := newDisk(t, 3)
	write(t, d, 1, 1)
	holds(t, d, 0, 1, 0)
	write(t, d, 2, 2)
	holds(t, d, 0, 1, 2)
	write(t, d, 1, 3)
	holds(t, d, 0, 3, 2)
	flush(t, d)
	holds(t, d, 0, 3, 2)
	write(t, d, 1, 4)
	write(t, d, 1, 0)
	holds(t, d, 0, 0, 2)
	write(t, d, 1, 3)
	holds(t, d, 0, 3, 2)
	for n := range 1000 {
		write(t, d, n%2, n+1)
	}
	if d.Pending() != 1003 {
		t.Errorf("%d pending, not 1003", d.Pending())
	}
	holds(t, d, 999, 1000, 2)
}

// P2.2: a flush does writes of one sector the eldest first, and nothing if
// none is pending.
func TestFlush(t *testing.T) {
	d := newDisk(t, 3)
	flush(t, d)
	holds(t, d, 0, 0, 0)
	for _, n := range []int{5, 6, 7} {
		write(t, d, 0, n)
	}
	write(t, d, 2, 8)
	flush(t, d)
	holds(t, d, 7, 0, 8)
	flush(t, d)
	holds(t, d, 7, 0, 8)
	crash(t, d, true, true, true)
	holds(t, d, 7, 0, 8)
}

// P2.2: the chapter's example.
func TestCrashOfOneWrite(t *testing.T) {
	d := newDisk(t, 4)
	write(t, d, 3, 1)
	crash(t, d)
	holds(t, d, 0, 0, 0, 0)
	write(t, d, 3, 2)
	crash(t, d, false)
	holds(t, d, 0, 0, 0, 0)
	write(t, d, 3, 3)
	crash(t, d, true)
	holds(t, d, 0, 0, 0, 3)
}

// P2.2: keep may have fewer or more places than there are pending writes; its
// places are those of the writes, the eldest first, whatever their sectors.
func TestCrash(t *testing.T) {
	yes, no := true, false
	for _, x := range []struct {
		name string
		keep []bool
		want []int
	}{
		{"none", nil, []int{0, 9, 0}},
		{"an empty one", []bool{}, []int{0, 9, 0}},
		{"the eldest", []bool{yes}, []int{0, 1, 0}},
		{"not the eldest, then an end", []bool{no}, []int{0, 9, 0}},
		{"the second", []bool{no, yes}, []int{0, 9, 2}},
		{"the two first", []bool{yes, yes}, []int{0, 1, 2}},
		{"the third over the first", []bool{yes, no, yes}, []int{0, 3, 0}},
		{"the third alone", []bool{no, no, yes}, []int{0, 3, 0}},
		{"all but the last of sector 1", []bool{yes, yes, no, yes}, []int{4, 1, 2}},
		{"all", []bool{yes, yes, yes, yes}, []int{4, 3, 2}},
		{"all and more", []bool{yes, yes, yes, yes, yes, no, yes}, []int{4, 3, 2}},
		{"none and more", []bool{no, no, no, no, yes, yes, yes}, []int{0, 9, 0}},
	} {
		t.Run(x.name, func(t *testing.T) {
			d := newDisk(t, 3)
			write(t, d, 1, 9)
			flush(t, d)
			for n, i := range []int{1, 2, 1, 0} {
				write(t, d, i, n+1)
			}
			keep := slices.Clone(x.keep)
			crash(t, d, keep...)
			holds(t, d, x.want...)
			if !slices.Equal(keep, x.keep) {
				t.Errorf("keep was changed: %v", keep)
			}
			crash(t, d, yes, yes, yes, yes)
			holds(t, d, x.want...)
			flush(t, d)
			holds(t, d, x.want...)
		})
	}
}

// P2.2: a crash with nothing pending changes nothing.
func TestCrashOfNothing(t *testing.T) {
	d := newDisk(t, 2)
	for range 2 {
		crash(t, d)
		crash(t, d, true)
		crash(t, d, false, true)
		holds(t, d, 0, 0)
	}
}

// P2.2: what a crash lost does not come back by later writes, flushes and
// crashes.
func TestWhatIsLostStaysLost(t *testing.T) {
	d := newDisk(t, 3)
	write(t, d, 0, 1)
	write(t, d, 1, 2)
	crash(t, d)
	write(t, d, 2, 3)
	holds(t, d, 0, 0, 3)
	flush(t, d)
	holds(t, d, 0, 0, 3)
	write(t, d, 2, 4)
	crash(t, d, false, true, true)
	holds(t, d, 0, 0, 3)
}

// P2.3: what was flushed, and not written since, is there behind any crash of
// what was written elsewhere.
func TestFlushedIsThereBehindAnyCrash(t *testing.T) {
	const writes = 5
	for kept := range 1 << writes {
		for places := range 2*writes + 1 {
			d := newDisk(t, 4)
			for i := range 4 {
				write(t, d, i, 10+i)
			}
			flush(t, d)
			for n := range writes {
				write(t, d, 2+n%2, 20+n)
			}
			keep := make([]bool, places)
			for k := range keep {
				keep[k] = k >= writes || kept>>k&1 == 1
			}
			crash(t, d, keep...)
			for i := range 2 {
				if s, e := d.Read(i); s != full(10+i) || e != api.OK {
					t.Fatalf("keep %v: Read(%d) is %v, %v", keep, i, s, e)
				}
			}
		}
	}
}

// Two disks have nothing in common, and what is told is the caller's own.
func TestNothingIsShared(t *testing.T) {
	a, b := newDisk(t, 2), newDisk(t, 2)
	s := full(1)
	if e := a.Write(0, s); e != api.OK {
		t.Fatal(e)
	}
	s[0]++
	told, _ := a.Read(0)
	told[1]++
	holds(t, a, 1, 0)
	holds(t, b, 0, 0)
	flush(t, a)
	told, _ = a.Read(0)
	told[1]++
	holds(t, a, 1, 0)
	holds(t, b, 0, 0)
}

// P2.1: what a disk that is not there answers.
func TestNil(t *testing.T) {
	var d *sector.Disk
	d.Crash()
	d.Crash(true, false)
	for _, i := range []int{-1, 0, 1, math.MaxInt, math.MinInt} {
		if e := d.Write(i, full(1)); e != api.ErrArg {
			t.Errorf("Write(%d) is %v", i, e)
		}
		if s, e := d.Read(i); s != full(0) || e != api.ErrArg {
			t.Errorf("Read(%d) is %v, %v", i, s, e)
		}
	}
	if e := d.Flush(); e != api.ErrArg {
		t.Errorf("Flush is %v", e)
	}
	if n := d.Pending(); n != 0 {
		t.Errorf("Pending is %d", n)
	}
	if n := d.Len(); n != 0 {
		t.Errorf("Len is %d", n)
	}
}

// model is the chapter's words by another way: of each sector, what a read
// tells and what a crash that keeps nothing leaves.
type model struct {
	seen, safe []int
	places     []int
	numbers    []int
}

func (m *model) write(i, n int) {
	m.seen[i] = n
	m.places = append(m.places, i)
	m.numbers = append(m.numbers, n)
}

func (m *model) crash(keep func(k int) bool) {
	for k, i := range m.places {
		if keep(k) {
			m.safe[i] = m.numbers[k]
		}
	}
	copy(m.seen, m.safe)
	m.places, m.numbers = nil, nil
}

// P2.1 to P2.3: long plays of all calls, beside the model.
func TestPlays(t *testing.T) {
	for seed := range int64(200) {
		r := rand.New(rand.NewSource(seed))
		size := 1 + r.Intn(6)
		d := newDisk(t, size)
		m := &model{seen: make([]int, size), safe: make([]int, size)}
		for range 200 {
			switch x := r.Intn(10); {
			case x < 7:
				i, n := r.Intn(size), r.Intn(256)
				write(t, d, i, n)
				m.write(i, n)
			case x < 8:
				flush(t, d)
				m.crash(func(int) bool { return true })
			default:
				keep := make([]bool, r.Intn(len(m.places)+3))
				for k := range keep {
					keep[k] = r.Intn(2) == 0
				}
				crash(t, d, keep...)
				m.crash(func(k int) bool { return k < len(keep) && keep[k] })
			}
			if d.Pending() != len(m.places) {
				t.Fatalf("seed %d: %d pending, not %d", seed, d.Pending(), len(m.places))
			}
			holds(t, d, m.seen...)
		}
		if t.Failed() {
			t.Fatalf("seed %d", seed)
		}
	}
}
