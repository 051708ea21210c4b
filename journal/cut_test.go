package journal

import (
	"bytes"
	"fmt"
	"slices"
	"testing"

	"weirgate/api"
	"weirgate/entry"
	"weirgate/sector"
)

// cutDisk is a disk that does a number of steps, writes and flushes, and none
// behind these, as if the power went off.
type cutDisk struct {
	*sector.Disk
	left int
}

func (c *cutDisk) on() bool {
	c.left--
	return c.left >= 0
}

func (c *cutDisk) Write(i int, s [api.Sector]byte) api.Errno {
	if !c.on() {
		return api.OK
	}
	return c.Disk.Write(i, s)
}

func (c *cutDisk) Flush() api.Errno {
	if !c.on() {
		return api.OK
	}
	return c.Disk.Flush()
}

const (
	cutFrom  = 2
	cutTo    = 18
	cutEpoch = 5
)

func text(n int, seed byte) []byte {
	b := make([]byte, n)
	for i := range b {
		b[i] = byte(i*5) + seed
	}
	return b
}

// elder is what stands at a journal's place ahead of its first entry: by name,
// the lengths of an elder epoch's entries.
var elder = []struct {
	name    string
	lengths []int
}{
	{"a new disk", nil},
	{"elder entries of one sector", []int{1, 2, 3, 4, 5, 6, 7, 8, 9, 10}},
	{"elder entries of five sectors", []int{300, 300, 300}},
	{"an elder entry, then one of five sectors", []int{1, 300, 300}},
	{"elder entries of other lengths", []int{100, 200, 1, 112}},
	{"one elder entry over all", []int{950}},
}

func openCut(t *testing.T, d *sector.Disk) *Journal {
	t.Helper()
	j, e := Open(d, cutFrom, cutTo, cutEpoch)
	if e != api.OK {
		t.Fatalf("Open is %v", e)
	}
	return j
}

// prepared is a disk with entries of an elder epoch, then first of this one.
func prepared(t *testing.T, lengths []int, first [][]byte) *sector.Disk {
	t.Helper()
	d, _ := sector.New(20)
	old, e := Open(d, cutFrom, cutTo, cutEpoch-1)
	if e != api.OK {
		t.Fatalf("Open is %v", e)
	}
	for i, n := range lengths {
		if e := old.Append(text(n, byte(100+i))); e != api.OK {
			t.Fatalf("Append is %v", e)
		}
	}
	j := openCut(t, d)
	for _, b := range first {
		if e := j.Append(b); e != api.OK {
			t.Fatalf("Append is %v", e)
		}
	}
	return d
}

// cutAppend is what Append does, up to a step; it tells how many writes are
// pending then.
func cutAppend(t *testing.T, d *sector.Disk, steps int, b []byte) int {
	t.Helper()
	j := openCut(t, d)
	s, e := entry.Encode(entry.Entry{Kind: kind, Epoch: cutEpoch, Seq: j.count, B: b})
	if e != api.OK {
		t.Fatalf("Encode is %v", e)
	}
	if e := lay(&cutDisk{d, steps}, j.end, s); e != api.OK {
		t.Fatalf("lay is %v", e)
	}
	return d.Pending()
}

// kept is which of some pending writes survive: those of the bits of n.
func kept(n, pending int) []bool {
	l := make([]bool, pending)
	for i := range l {
		l[i] = n>>i&1 == 1
	}
	return l
}

func sameAll(a, b [][]byte) bool {
	return slices.EqualFunc(a, b, bytes.Equal)
}

// P4.2, P4.3: an Append that is cut ahead of, between or behind its flushes,
// with any of the pending writes kept, leaves what was there, and the new entry
// as a whole or not at all, over whatever elder entries; then the next ones go
// on from there.
func TestCutAppend(t *testing.T) {
	firsts := [][][]byte{nil, {[]byte("first")}, {text(100, 1), text(3, 2)}}
	for _, x := range elder {
		for _, first := range firsts {
			for _, length := range []int{0, 48, 49, 300} {
				cutEverywhere(t, x.name, x.lengths, first, text(length, 50))
			}
		}
	}
}

func cutEverywhere(t *testing.T, name string, lengths []int, first [][]byte, b []byte) {
	t.Helper()
	later := entry.Need(len(b)) - 1
	all := later + 3 // the later sectors, a flush, the first one, a flush
	for steps := range all + 1 {
		pending := cutAppend(t, prepared(t, lengths, first), steps, b)
		for n := range 1 << pending {
			where := fmt.Sprintf("%s, %d entries, %d bytes, %d steps, kept %b", name, len(first), len(b), steps, n)
			d := prepared(t, lengths, first)
			cutAppend(t, d, steps, b)
			keep := kept(n, pending)
			d.Crash(keep...)
			want := slices.Clone(first)
			if steps == all || steps == all-1 && keep[0] {
				want = append(want, b)
			}
			goesOn(t, where, d, want)
		}
	}
}

// goesOn asks for entries behind a crash, and appends to them.
func goesOn(t *testing.T, where string, d *sector.Disk, want [][]byte) {
	t.Helper()
	j := openCut(t, d)
	if !sameAll(j.All(), want) {
		t.Fatalf("%s: entries are %q", where, j.All())
	}
	for _, b := range [][]byte{[]byte("then"), text(120, 9)} {
		if e := j.Append(b); e != api.OK {
			t.Fatalf("%s: Append is %v", where, e)
		}
		want = append(want, b)
		d.Crash()
		if !sameAll(j.All(), want) || !sameAll(openCut(t, d).All(), want) {
			t.Fatalf("%s: entries are %q, then %q", where, j.All(), openCut(t, d).All())
		}
	}
}

// P4.2: the steps, one by one: all sectors but the first, a flush, the first,
// a flush.
func TestStepsOfAnAppend(t *testing.T) {
	for _, length := range []int{0, 48, 49, 300, 700} {
		b := text(length, 50)
		s, _ := entry.Encode(entry.Entry{Kind: kind, Epoch: cutEpoch, Seq: 1, B: b})
		first := [][]byte{[]byte("first")}
		blank := prepared(t, nil, first)
		for steps := range len(s) + 4 {
			d := prepared(t, nil, first)
			pending := cutAppend(t, d, steps, b)
			want := []int{steps, 0, 1, 0, 0}[max(0, min(4, steps-len(s)+1))]
			if pending != want {
				t.Errorf("%d bytes, %d steps: %d pending, not %d", length, steps, pending, want)
			}
			for i := range s {
				at := cutFrom + 1 + i
				written := i > 0 && i <= steps || i == 0 && steps > len(s)
				got, _ := d.Read(at)
				was, _ := blank.Read(at)
				if written && got != s[i] || !written && got != was {
					t.Errorf("%d bytes, %d steps: sector %d is % x", length, steps, at, got)
				}
			}
		}
	}
}

// P4.3: crash upon crash in one journal loses nothing that was appended.
func TestManyCuts(t *testing.T) {
	d, _ := sector.New(20)
	var want [][]byte
	for i := range 60 {
		b := text(60+i%50, byte(i)) // two sectors: four steps
		pending := cutAppend(t, d, i%5, b)
		keep := kept(i, pending)
		d.Crash(keep...)
		if i%5 == 4 || i%5 == 3 && keep[0] {
			want = append(want, b)
		}
		j := openCut(t, d)
		if !sameAll(j.All(), want) {
			t.Fatalf("crash %d: %d entries, not %d", i, len(j.All()), len(want))
		}
		if j.Room() < 2 {
			return
		}
	}
	t.Errorf("%d entries only", len(want))
}
