package snap

import (
	"bytes"
	"fmt"
	"slices"
	"testing"

	"weirgate/api"
	"weirgate/entry"
	"weirgate/sector"
)

// cutDisk is a disk that does a number of steps, writes and flushes, and none
// behind these, as if the power went off.
type cutDisk struct {
	*sector.Disk
	left int
}

func (c *cutDisk) on() bool {
	c.left--
	return c.left >= 0
}

func (c *cutDisk) Write(i int, s [api.Sector]byte) api.Errno {
	if !c.on() {
		return api.OK
	}
	return c.Disk.Write(i, s)
}

func (c *cutDisk) Flush() api.Errno {
	if !c.on() {
		return api.OK
	}
	return c.Disk.Flush()
}

// kept is one snapshot that was saved.
type kept struct {
	epoch  uint32
	length int
}

func (k kept) bytes() []byte {
	b := make([]byte, k.length)
	for i := range b {
		b[i] = byte(i*5) + byte(k.epoch)*17 + byte(k.length)
	}
	return b
}

// prepared is a disk upon which these were saved, one behind the other.
func prepared(t *testing.T, elder []kept) *sector.Disk {
	t.Helper()
	d, _ := sector.New(34)
	for _, k := range elder {
		if e := Save(d, k.epoch, k.bytes()); e != api.OK {
			t.Fatalf("Save is %v", e)
		}
	}
	return d
}

// cutSave is a Save up to a step; it tells how many writes are pending then.
func cutSave(t *testing.T, d *sector.Disk, steps int, k kept) int {
	t.Helper()
	if e := save(&cutDisk{d, steps}, k.epoch, k.bytes()); e != api.OK {
		t.Fatalf("save is %v", e)
	}
	return d.Pending()
}

// keeps is which of some pending writes survive: those of the bits of n.
func keeps(n, pending int) []bool {
	l := make([]bool, pending)
	for i := range l {
		l[i] = n>>i&1 == 1
	}
	return l
}

// asks is what is asked of a disk: a snapshot, or that there is none.
func asks(t *testing.T, where string, d *sector.Disk, want []kept) {
	t.Helper()
	epoch, b, e := Load(d)
	if len(want) == 0 {
		if e != api.ErrNone {
			t.Fatalf("%s: Load is %d, %v", where, epoch, e)
		}
		return
	}
	last := want[len(want)-1]
	if e != api.OK || epoch != last.epoch || !bytes.Equal(b, last.bytes()) {
		t.Fatalf("%s: Load is %d, %d bytes, %v, not %d, %d bytes", where, epoch, len(b), e, last.epoch, last.length)
	}
}

// elders are what stands on a disk ahead of a Save of a greater epoch; the last
// one of each is the newest.
var elders = [][]kept{
	nil,
	{{1, 0}},
	{{1, 300}},
	{{1, 0}, {2, 0}},
	{{1, 200}, {2, 300}},
	{{1, 300}, {2, 200}},
	{{1, 993}, {2, 993}, {3, 993}},
	{{1, 300}, {2, 300}, {3, 300}, {4, 300}},
	{{0, 300}},
}

// cases calls f for each step at which a Save may be cut, with each choice of
// the pending writes that a crash then keeps. done tells whether the saved one
// is whole.
func cases(t *testing.T, elder []kept, k kept, f func(where string, d *sector.Disk, done bool)) {
	t.Helper()
	all := entry.Need(k.length) - 1 + 3 // the later sectors, a flush, the first one, a flush
	for steps := range all + 2 {
		pending := cutSave(t, prepared(t, elder), steps, k)
		for n := range 1 << pending {
			where := fmt.Sprintf("%v, then %v, %d steps, kept %b", elder, k, steps, n)
			d := prepared(t, elder)
			cutSave(t, d, steps, k)
			keep := keeps(n, pending)
			d.Crash(keep...)
			f(where, d, steps >= all || steps == all-1 && keep[0])
		}
	}
}

// P7.2: a Save of a greater epoch that is cut ahead of, between or behind its
// writes and flushes, with any of the pending writes kept, leaves what was
// told, or what was saved; then the next ones go on from there.
func TestCutSave(t *testing.T) {
	for _, elder := range elders {
		for _, length := range []int{0, 48, 49, 300} {
			k := kept{9, length}
			cases(t, elder, k, func(where string, d *sector.Disk, done bool) {
				want := slices.Clone(elder)
				if done {
					want = append(want, k)
				}
				asks(t, where, d, want)
				goesOn(t, where, d, want)
			})
		}
	}
}

// goesOn saves upon what a crash left, twice: each place is written once.
func goesOn(t *testing.T, where string, d *sector.Disk, want []kept) {
	t.Helper()
	for _, k := range []kept{{10, 20}, {11, 120}} {
		if e := Save(d, k.epoch, k.bytes()); e != api.OK {
			t.Fatalf("%s: Save is %v", where, e)
		}
		d.Crash()
		want = append(want, k)
		asks(t, where+", then more", d, want)
	}
}

// P7.2: the longest snapshot, over others as long, with one of its pending
// writes kept, or lost, or those ahead of a place kept.
func TestCutLongestSave(t *testing.T) {
	elder := []kept{{1, 993}, {2, 993}}
	k := kept{3, 993}
	for steps := range 20 {
		pending := cutSave(t, prepared(t, elder), steps, k)
		for i := range pending + 1 {
			for _, bits := range []int{1 << i, ^(1 << i), 1<<i - 1, ^(1<<i - 1)} {
				d := prepared(t, elder)
				cutSave(t, d, steps, k)
				keep := keeps(bits, pending)
				d.Crash(keep...)
				want := elder
				if steps >= 18 || steps == 17 && keep[0] {
					want = []kept{k}
				}
				asks(t, fmt.Sprintf("%d steps, kept %v", steps, keep), d, want)
			}
		}
	}
}

// P7.1: a Save of an elder epoch that is cut leaves the newest one, as a whole
// one does; one of the same epoch goes by its place.
func TestCutSaveOfAnElderEpoch(t *testing.T) {
	for _, x := range []struct {
		elder []kept
		k     kept
		takes bool
	}{
		{[]kept{{5, 300}}, kept{4, 200}, false},
		{[]kept{{4, 300}, {5, 300}}, kept{0, 300}, false},
		{[]kept{{5, 300}}, kept{5, 200}, false},
		{[]kept{{4, 300}, {5, 300}}, kept{5, 200}, true},
	} {
		cases(t, x.elder, x.k, func(where string, d *sector.Disk, done bool) {
			want := slices.Clone(x.elder)
			if done && x.takes {
				want = append(want, x.k)
			}
			asks(t, where, d, want)
		})
	}
}

// P7.1: the steps, one by one: all sectors but the first, a flush, the first,
// a flush.
func TestStepsOfASave(t *testing.T) {
	for _, elder := range [][]kept{nil, {{1, 700}}, {{1, 700}, {2, 700}}} {
		place := []int{0, Size}[len(elder)%2]
		was := prepared(t, elder)
		for _, length := range []int{0, 48, 49, 300, 993} {
			k := kept{9, length}
			s, _ := entry.Encode(entry.Entry{Kind: 2, Epoch: 9, B: k.bytes()})
			for steps := range len(s) + 4 {
				d := prepared(t, elder)
				pending := cutSave(t, d, steps, k)
				want := []int{steps, 0, 1, 0, 0}[max(0, min(4, steps-len(s)+1))]
				if pending != want {
					t.Errorf("%d bytes, %d steps: %d pending, not %d", length, steps, pending, want)
				}
				for i := range d.Len() {
					got, _ := d.Read(i)
					want, _ := was.Read(i)
					if n := i - place; n > 0 && n < len(s) && n <= steps || n == 0 && steps > len(s) {
						want = s[n]
					}
					if got != want {
						t.Errorf("%d bytes, %d steps: sector %d is % x", length, steps, i, got)
					}
				}
			}
		}
	}
}

// P7.2: crash upon crash loses no snapshot.
func TestManyCuts(t *testing.T) {
	d, _ := sector.New(32)
	var want []kept
	for i := range 2000 {
		k := kept{uint32(i), 49 + i%60} // two sectors: four steps
		steps := i * 7 % 5
		pending := cutSave(t, d, steps, k)
		keep := keeps(i/5, pending)
		d.Crash(keep...)
		if steps == 4 || steps == 3 && keep[0] {
			want = append(want, k)
		}
		asks(t, fmt.Sprintf("crash %d", i), d, want)
	}
	if len(want) < 500 {
		t.Errorf("%d Saves only", len(want))
	}
}

// badDisk tells an error at one step, which it does not do.
type badDisk struct {
	*sector.Disk
	ahead int
}

func (b *badDisk) bad() bool {
	b.ahead--
	return b.ahead == -1
}

func (b *badDisk) Write(i int, s [api.Sector]byte) api.Errno {
	if b.bad() {
		return api.ErrFull
	}
	return b.Disk.Write(i, s)
}

func (b *badDisk) Flush() api.Errno {
	if b.bad() {
		return api.ErrFull
	}
	return b.Disk.Flush()
}

// An error of any write or flush ends a Save, and is told.
func TestErrorsOfTheDisk(t *testing.T) {
	elder := []kept{{1, 10}}
	k := kept{2, 200} // four sectors: six steps
	for ahead := range 6 {
		d := prepared(t, elder)
		if e := save(&badDisk{d, ahead}, k.epoch, k.bytes()); e != api.ErrFull {
			t.Errorf("behind %d steps: save is %v", ahead, e)
		}
		d.Crash()
		asks(t, "an error", d, elder)
	}
	d := prepared(t, elder)
	if e := save(&badDisk{d, 6}, k.epoch, k.bytes()); e != api.OK {
		t.Errorf("save is %v", e)
	}
	asks(t, "no error", d, []kept{k})
}
