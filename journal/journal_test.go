package journal_test

import (
	"bytes"
	"math"
	"math/rand"
	"slices"
	"strings"
	"testing"

	"weirgate/api"
	"weirgate/entry"
	"weirgate/journal"
	"weirgate/sector"
)

// The calls have exactly these signatures.
var (
	_ func(*sector.Disk, int, int, uint32) (*journal.Journal, api.Errno) = journal.Open
	_ func(*journal.Journal, ...[]byte) api.Errno                        = (*journal.Journal).Append
	_ func(*journal.Journal) [][]byte                                    = (*journal.Journal).All
	_ func(*journal.Journal) int                                         = (*journal.Journal).Room
	_ func(*journal.Journal, uint32)                                     = (*journal.Journal).Next
)

func newDisk(t *testing.T, n int) *sector.Disk {
	t.Helper()
	d, e := sector.New(n)
	if e != api.OK {
		t.Fatalf("New(%d) is %v", n, e)
	}
	return d
}

func open(t *testing.T, d *sector.Disk, from, to int, epoch uint32) *journal.Journal {
	t.Helper()
	j, e := journal.Open(d, from, to, epoch)
	if j == nil || e != api.OK {
		t.Fatalf("Open(%d, %d, %d) is %v, %v", from, to, epoch, j, e)
	}
	return j
}

// add appends texts, an entry each.
func add(t *testing.T, j *journal.Journal, texts ...string) {
	t.Helper()
	for _, x := range texts {
		if e := j.Append([]byte(x)); e != api.OK {
			t.Fatalf("Append of %d bytes is %v", len(x), e)
		}
	}
}

// has asks for a journal's entries and its room.
func has(t *testing.T, name string, j *journal.Journal, room int, want ...string) {
	t.Helper()
	l := j.All()
	if len(l) != len(want) {
		t.Fatalf("%s: %d entries, not %d", name, len(l), len(want))
	}
	for i, b := range l {
		if string(b) != want[i] {
			t.Errorf("%s: entry %d is %.20q of %d bytes, not %.20q of %d", name, i, b, len(b), want[i], len(want[i]))
		}
	}
	if j.Room() != room {
		t.Errorf("%s: Room is %d, not %d", name, j.Room(), room)
	}
}

// image is all sectors of a disk, of which no write is pending.
func image(t *testing.T, d *sector.Disk) [][api.Sector]byte {
	t.Helper()
	if d.Pending() != 0 {
		t.Errorf("%d writes are pending", d.Pending())
	}
	l := make([][api.Sector]byte, d.Len())
	for i := range l {
		l[i], _ = d.Read(i)
	}
	return l
}

func encode(t *testing.T, kind int, epoch, seq uint32, text string) [][api.Sector]byte {
	t.Helper()
	s, e := entry.Encode(entry.Entry{Kind: kind, Epoch: epoch, Seq: seq, B: []byte(text)})
	if e != api.OK {
		t.Fatalf("Encode is %v", e)
	}
	return s
}

// write writes sectors one behind the other, not flushed.
func write(t *testing.T, d *sector.Disk, at int, s [][api.Sector]byte) {
	t.Helper()
	for i := range s {
		if e := d.Write(at+i, s[i]); e != api.OK {
			t.Fatalf("Write(%d) is %v", at+i, e)
		}
	}
}

func long(n int) string {
	b := make([]byte, n)
	for i := range b {
		b[i] = byte(i*11 + i/256 + n)
	}
	return string(b)
}

// P4.1: from is from 0 to below to, to at most the disk's length.
func TestOpenPlaces(t *testing.T) {
	for _, n := range []int{1, 5, 70, api.MaxDisk} {
		d := newDisk(t, n)
		for _, x := range [][2]int{{0, 1}, {0, n}, {n - 1, n}, {n / 2, n}, {0, (n + 1) / 2}} {
			has(t, "a new disk", open(t, d, x[0], x[1], 3), x[1]-x[0])
		}
		for _, x := range [][2]int{
			{-1, 1}, {-1, n}, {-1, 0}, {-2, -1}, {math.MinInt, n}, {math.MinInt, math.MaxInt},
			{0, 0}, {n, n}, {n - 1, n - 1}, {1, 0}, {n, n - 1}, {math.MaxInt, 1}, {0, -1}, {0, math.MinInt},
			{0, n + 1}, {n - 1, n + 1}, {n, n + 1}, {0, math.MaxInt}, {n + 1, n + 2}, {math.MaxInt, math.MaxInt},
		} {
			if j, e := journal.Open(d, x[0], x[1], 3); j != nil || e != api.ErrArg {
				t.Errorf("of %d: Open(%d, %d) is %v, %v", n, x[0], x[1], j, e)
			}
		}
	}
}

// P4.1: without a disk there is no journal.
func TestNoDisk(t *testing.T) {
	for _, x := range [][2]int{{0, 0}, {0, 1}, {-1, 0}, {1, 5}, {math.MinInt, math.MaxInt}} {
		if j, e := journal.Open(nil, x[0], x[1], 0); j != nil || e != api.ErrArg {
			t.Errorf("Open(nil, %d, %d) is %v, %v", x[0], x[1], j, e)
		}
	}
}

// P4.1: what a journal that is not there answers.
func TestNil(t *testing.T) {
	var j *journal.Journal
	for range 2 {
		for _, parts := range [][][]byte{nil, {}, {nil}, {[]byte("a"), []byte("b")}, {make([]byte, 4001)}} {
			if e := j.Append(parts...); e != api.ErrArg {
				t.Errorf("Append of %d parts is %v", len(parts), e)
			}
		}
		if l := j.All(); len(l) != 0 {
			t.Errorf("All is %v", l)
		}
		if n := j.Room(); n != 0 {
			t.Errorf("Room is %d", n)
		}
		j.Next(5)
	}
}

// P4.2: the chapter's example.
func TestAppendThenOpen(t *testing.T) {
	d := newDisk(t, 4)
	add(t, open(t, d, 0, 4, 0), "a")
	has(t, "opened again", open(t, d, 0, 4, 0), 3, "a")
}

// P4.2: on the disk are the entries' sectors, each behind the one ahead, from
// from on, and nothing else is written.
func TestSectorsOnTheDisk(t *testing.T) {
	for _, epoch := range []uint32{0, 1, 0x01020304, math.MaxUint32} {
		for _, from := range []int{0, 3, 11} {
			d := newDisk(t, 40)
			noise := [api.Sector]byte{0x57, 1, 2, 3, 0xff}
			for i := range 40 {
				write(t, d, i, [][api.Sector]byte{noise})
			}
			d.Flush()
			j := open(t, d, from, 30, epoch)
			want := image(t, d)
			at := from
			for seq, text := range []string{"a", "", long(48), long(49), long(300), long(111), "z"} {
				add(t, j, text)
				s := encode(t, 1, epoch, uint32(seq), text)
				copy(want[at:], s)
				at += len(s)
				if !slices.Equal(image(t, d), want) {
					t.Fatalf("epoch %d, from %d: behind entry %d the disk is another", epoch, from, seq)
				}
				if j.Room() != 30-at {
					t.Errorf("epoch %d, from %d: behind entry %d Room is %d, not %d", epoch, from, seq, j.Room(), 30-at)
				}
			}
		}
	}
}

// P4.1, P4.2: entries of all sizes are told in their order, by the journal and
// by one that is opened behind a crash.
func TestSizes(t *testing.T) {
	d := newDisk(t, 500)
	j := open(t, d, 7, 490, 12)
	var want []string
	room := 483
	for _, n := range []int{0, 1, 47, 48, 49, 0, 110, 111, 112, 255, 256, 1000, 3954, 3955, 3999, 4000} {
		add(t, j, long(n))
		want = append(want, long(n))
		room -= entry.Need(n)
		has(t, "the journal", j, room, want...)
		has(t, "opened again", open(t, d, 7, 490, 12), room, want...)
		d.Crash(true, true)
		has(t, "behind a crash", open(t, d, 7, 490, 12), room, want...)
	}
}

// P4.2: many entries, up to the end of the greatest disk.
func TestMany(t *testing.T) {
	d := newDisk(t, api.MaxDisk)
	j := open(t, d, 0, api.MaxDisk, 1)
	var want []string
	for i := range api.MaxDisk {
		want = append(want, string([]byte{byte(i >> 8), byte(i)}))
	}
	add(t, j, want...)
	has(t, "the journal", j, 0, want...)
	has(t, "opened again", open(t, d, 0, api.MaxDisk, 1), 0, want...)
	if e := j.Append(); e != api.ErrFull {
		t.Errorf("Append beyond the disk is %v", e)
	}
}

// P4.2: where the parts are cut is not to be seen; no parts are an entry too.
func TestParts(t *testing.T) {
	d := newDisk(t, 20)
	j := open(t, d, 0, 20, 1)
	for _, parts := range [][][]byte{
		nil, {}, {nil}, {{}, nil, {}},
		{[]byte("ab")}, {[]byte("a"), []byte("b")}, {nil, []byte("a"), {}, []byte("b"), nil},
		{[]byte("b"), []byte("a")},
	} {
		if e := j.Append(parts...); e != api.OK {
			t.Fatalf("Append of %q is %v", parts, e)
		}
	}
	want := []string{"", "", "", "", "ab", "ab", "ab", "ba"}
	has(t, "the journal", j, 12, want...)
	has(t, "opened again", open(t, d, 0, 20, 1), 12, want...)
}

// refused asks for an error, and that it changes nothing.
func refused(t *testing.T, d *sector.Disk, j *journal.Journal, want api.Errno, parts ...[]byte) {
	t.Helper()
	was, all, room := image(t, d), j.All(), j.Room()
	if e := j.Append(parts...); e != want {
		t.Errorf("Append is %v, not %v", e, want)
	}
	if !slices.Equal(image(t, d), was) {
		t.Error("what is refused is written")
	}
	if !slices.EqualFunc(j.All(), all, bytes.Equal) || j.Room() != room {
		t.Error("what is refused changes the journal")
	}
}

// P4.2: the parts together have at most 4000 bytes, however they are cut.
func TestLong(t *testing.T) {
	whole := []byte(long(4001))
	for _, size := range []int{1, 2, 63, 2000, 3999, 4000, 4001} {
		d := newDisk(t, 140)
		j := open(t, d, 2, 140, 5)
		add(t, j, "a")
		refused(t, d, j, api.ErrLong, slices.Collect(slices.Chunk(whole, size))...)
		if e := j.Append(slices.Collect(slices.Chunk(whole[:4000], size))...); e != api.OK {
			t.Errorf("4000 bytes by %d: %v", size, e)
		}
		has(t, "4000 bytes", j, 73, "a", string(whole[:4000]))
		add(t, j, "b")
		has(t, "opened again", open(t, d, 2, 140, 5), 72, "a", string(whole[:4000]), "b")
	}
	d := newDisk(t, 140)
	j := open(t, d, 0, 140, 5)
	for _, parts := range [][][]byte{{nil, whole, nil}, {whole[:4000], nil, {1}}, {{1}, whole[:4000]}, {whole, whole}, {make([]byte, 1<<20)}, {make([]byte, 65536)}} {
		refused(t, d, j, api.ErrLong, parts...)
	}
	mega := make([]byte, 1<<20)
	many := make([][]byte, 1<<16)
	for i := range many {
		many[i] = mega
	}
	refused(t, d, j, api.ErrLong, many...)
}

// P4.2: too long is said ahead of too full.
func TestLongAheadOfFull(t *testing.T) {
	d := newDisk(t, 1)
	j := open(t, d, 0, 1, 5)
	refused(t, d, j, api.ErrLong, make([]byte, 4001))
	refused(t, d, j, api.ErrFull, make([]byte, 4000))
	add(t, j, "a")
	refused(t, d, j, api.ErrLong, make([]byte, 4000), []byte{0})
	refused(t, d, j, api.ErrFull)
}

// P4.2: an entry may take just the room that is left, and not a sector more.
func TestFull(t *testing.T) {
	for room := 1; room <= 64; room++ {
		for _, behind := range []int{0, 3} {
			d := newDisk(t, 2+room+behind)
			j := open(t, d, 1, 2+room, 9)
			add(t, j, "a")
			fits := min(48+63*(room-1), 4000)
			if room < 64 {
				refused(t, d, j, api.ErrFull, make([]byte, fits+1))
			}
			add(t, j, long(fits))
			has(t, "full", j, 0, "a", long(fits))
			refused(t, d, j, api.ErrFull)
			refused(t, d, j, api.ErrFull, nil)
			refused(t, d, j, api.ErrFull, []byte(long(fits)))
			full := open(t, d, 1, 2+room, 9)
			has(t, "opened again", full, 0, "a", long(fits))
			refused(t, d, full, api.ErrFull, []byte("b"))
		}
	}
}

// P4.2: behind an entry that had no room a shorter one may have it.
func TestShorterBehindFull(t *testing.T) {
	d := newDisk(t, 5)
	j := open(t, d, 0, 5, 9)
	add(t, j, long(111))
	refused(t, d, j, api.ErrFull, []byte(long(175)))
	add(t, j, long(112))
	has(t, "the journal", j, 0, long(111), long(112))
}

// P4.1: the end is the first place at which no entry of Kind 1, of this epoch,
// of the next sequence stands.
func TestEnd(t *testing.T) {
	good := func(seq uint32, text string) [][api.Sector]byte { return encode(t, 1, 7, seq, text) }
	two := slices.Concat(good(0, "a"), good(1, long(100)))
	torn := good(2, long(300))
	torn[3][20]++
	for _, x := range []struct {
		name string
		s    [][api.Sector]byte
		room int
		want []string
	}{
		{"nothing", nil, 20, nil},
		{"two", two, 17, []string{"a", long(100)}},
		{"three", slices.Concat(two, good(2, "c")), 16, []string{"a", long(100), "c"}},
		{"a gap", slices.Concat(two, make([][api.Sector]byte, 1), good(2, "c")), 17, []string{"a", long(100)}},
		{"a gap in front", slices.Concat(make([][api.Sector]byte, 1), good(0, "a")), 20, nil},
		{"a sequence left out", slices.Concat(two, good(3, "c"), good(2, "d")), 17, []string{"a", long(100)}},
		{"a sequence twice", slices.Concat(two, good(1, "c"), good(2, "d")), 17, []string{"a", long(100)}},
		{"sequences from 0 again", slices.Concat(two, two), 17, []string{"a", long(100)}},
		{"sequences from 1 on", slices.Concat(good(1, "a"), good(2, "b")), 20, nil},
		{"a sequence far on", slices.Concat(two, good(2+1<<16, "c")), 17, []string{"a", long(100)}},
		{"kind 0", slices.Concat(two, encode(t, 0, 7, 2, "c"), good(2, "d")), 17, []string{"a", long(100)}},
		{"kind 2", slices.Concat(two, encode(t, 2, 7, 2, "c"), good(2, "d")), 17, []string{"a", long(100)}},
		{"kind 2 in front", slices.Concat(encode(t, 2, 7, 0, "c"), good(0, "a")), 20, nil},
		{"kind 255", encode(t, 255, 7, 0, "c"), 20, nil},
		{"the epoch ahead", slices.Concat(two, encode(t, 1, 6, 2, "c"), good(2, "d")), 17, []string{"a", long(100)}},
		{"the epoch behind", slices.Concat(two, encode(t, 1, 8, 2, "c"), good(2, "d")), 17, []string{"a", long(100)}},
		{"an epoch alike below", encode(t, 1, 7+1<<16, 0, "c"), 20, nil},
		{"a byte turned", slices.Concat(two, torn, good(3, "d")), 17, []string{"a", long(100)}},
		{"a sector lost", slices.Concat(two, good(2, long(300))[:4], good(3, "d")), 17, []string{"a", long(100)}},
		{"the first sector lost", slices.Concat(two, good(2, long(300))[1:]), 17, []string{"a", long(100)}},
	} {
		for _, from := range []int{0, 4} {
			d := newDisk(t, 30)
			write(t, d, from, x.s)
			d.Flush()
			j := open(t, d, from, from+20, 7)
			has(t, x.name, j, x.room, x.want...)
			add(t, j, long(60))
			want := append(slices.Clone(x.want), long(60))
			has(t, x.name+", then one more", j, x.room-2, want...)
			d.Crash()
			has(t, x.name+", opened again", open(t, d, from, from+20, 7), x.room-2, want...)
		}
	}
}

// P4.1: an entry that does not lie ahead of To as a whole is none; nor is one
// that begins ahead of From.
func TestEndAtTo(t *testing.T) {
	d := newDisk(t, 20)
	j := open(t, d, 2, 20, 7)
	add(t, j, "a", long(300), "c")
	for to := 3; to <= 20; to++ {
		var want []string
		room := to - 2
		for _, text := range []string{"a", long(300), "c"} {
			if n := entry.Need(len(text)); n <= room {
				want = append(want, text)
				room -= n
				continue
			}
			break
		}
		has(t, "another To", open(t, d, 2, to, 7), room, want...)
	}
	for _, from := range []int{0, 1, 3, 4, 8, 9} {
		has(t, "another From", open(t, d, from, 20, 7), 20-from)
	}
}

// P4.1: what is read is what was written last, whether or not it is flushed.
func TestOpenReadsPendingWrites(t *testing.T) {
	d := newDisk(t, 10)
	add(t, open(t, d, 0, 10, 7), "a", "b")
	write(t, d, 1, encode(t, 1, 7, 1, long(100)))
	has(t, "pending", open(t, d, 0, 10, 7), 7, "a", long(100))
	d.Crash()
	has(t, "lost", open(t, d, 0, 10, 7), 8, "a", "b")
}

// P4.1: Open, All and Room only read.
func TestAskingChangesNothing(t *testing.T) {
	d := newDisk(t, 10)
	j := open(t, d, 1, 9, 7)
	add(t, j, "a", long(100))
	was := image(t, d)
	for range 3 {
		has(t, "asked", j, 5, "a", long(100))
		open(t, d, 1, 9, 7)
		open(t, d, 0, 10, 8)
		if !slices.Equal(image(t, d), was) {
			t.Fatal("asking writes")
		}
	}
	has(t, "another epoch", open(t, d, 1, 9, 8), 8)
}

// P4.2: behind Next there are no entries; nothing is written.
func TestNext(t *testing.T) {
	d := newDisk(t, 12)
	j := open(t, d, 2, 12, 7)
	add(t, j, "a", long(100), "c")
	was := image(t, d)
	j.Next(8)
	has(t, "another epoch", j, 10)
	if !slices.Equal(image(t, d), was) {
		t.Error("Next writes")
	}
	has(t, "the old one, opened", open(t, d, 2, 12, 7), 6, "a", long(100), "c")
	has(t, "the new one, opened", open(t, d, 2, 12, 8), 10)
}

// P4.2, P4.3: elder entries behind new ones never count, wherever the new ones
// end among them, though their sequences would go on.
func TestNewEpochOverElderEntries(t *testing.T) {
	for _, elder := range [][]string{{"a", "b", "c", "d", "e", "f"}, {"a", long(300)}, {long(300), "b"}, {long(100), long(100), "c"}} {
		for _, texts := range [][]string{{"q"}, {"q", "r"}, {long(60)}, {long(60), "r"}, {long(300)}, {"q", long(200)}} {
			for _, epochs := range [][2]uint32{{7, 8}, {8, 7}, {0, math.MaxUint32}, {math.MaxUint32, 0}} {
				d := newDisk(t, 12)
				j := open(t, d, 1, 12, epochs[0])
				add(t, j, elder...)
				j.Next(epochs[1])
				room := 11
				for i, text := range texts {
					add(t, j, text)
					room -= entry.Need(len(text))
					has(t, "the journal", j, room, texts[:i+1]...)
					has(t, "opened again", open(t, d, 1, 12, epochs[1]), room, texts[:i+1]...)
					has(t, "the elder epoch", open(t, d, 1, 12, epochs[0]), 11)
				}
			}
		}
	}
}

// P4.2: behind Next there are no entries, also if the epoch was there before,
// and those of it still stand on the disk.
func TestEpochThatComesBack(t *testing.T) {
	for _, back := range [][]uint32{{7}, {9, 7}, {9, 10, 7}, {7, 7}} {
		d := newDisk(t, 12)
		j := open(t, d, 1, 12, 7)
		add(t, j, "a", "b", "c")
		for _, epoch := range back {
			j.Next(epoch)
			has(t, "behind Next", j, 11)
		}
		add(t, j, "x")
		has(t, "one more", j, 10, "x")
		add(t, j, long(100), "z")
		has(t, "three", j, 7, "x", long(100), "z")
		has(t, "opened again", open(t, d, 1, 12, 7), 7, "x", long(100), "z")
	}
	d := newDisk(t, 12)
	j := open(t, d, 1, 12, 7)
	add(t, j, "a")
	j.Next(9)
	add(t, j, "b", "c")
	j.Next(7)
	has(t, "overwritten, back", j, 11)
	has(t, "overwritten, opened", open(t, d, 1, 12, 7), 11)
	add(t, j, "x")
	has(t, "back over another epoch", open(t, d, 1, 12, 7), 10, "x")
	has(t, "the other epoch", open(t, d, 1, 12, 9), 11)
}

// P4.2: an epoch that comes back begins with sequence 0 at from; Open tells
// what it reads, so elder entries whose sequences go on there count for it.
func TestOpenOfAnEpochThatCameBack(t *testing.T) {
	d := newDisk(t, 12)
	j := open(t, d, 1, 12, 7)
	add(t, j, "a", "b", "c")
	j.Next(9)
	j.Next(7)
	add(t, j, "x")
	has(t, "the journal", j, 10, "x")
	has(t, "opened", open(t, d, 1, 12, 7), 8, "x", "b", "c")
}

// Journals at several places of a disk don't touch each other.
func TestNeighbours(t *testing.T) {
	d := newDisk(t, 30)
	a, b, c := open(t, d, 0, 10, 7), open(t, d, 10, 20, 7), open(t, d, 20, 30, 8)
	for range 5 {
		add(t, a, long(60))
		add(t, c, "c")
		add(t, b, long(50))
	}
	x, y := long(60), long(50)
	has(t, "a", a, 0, x, x, x, x, x)
	b.Next(9)
	refused(t, d, a, api.ErrFull)
	has(t, "a, opened", open(t, d, 0, 10, 7), 0, x, x, x, x, x)
	has(t, "b, opened", open(t, d, 10, 20, 7), 0, y, y, y, y, y)
	has(t, "c, opened", open(t, d, 20, 30, 8), 5, "c", "c", "c", "c", "c")
}

// What is handed in is not changed, its spare room included, and not kept;
// what is told is new memory.
func TestMemory(t *testing.T) {
	d := newDisk(t, 60)
	j := open(t, d, 0, 60, 7)
	room := []byte(long(500))
	parts := [][]byte{room[:20], room[30:200], nil, room[300:300], room[210:220]}
	want := string(slices.Concat(parts...))
	for range 2 {
		if e := j.Append(parts...); e != api.OK {
			t.Fatal(e)
		}
	}
	one := room[:100]
	if e := j.Append(one); e != api.OK {
		t.Fatal(e)
	}
	if string(room) != long(500) || len(parts) != 5 || len(parts[0]) != 20 || len(parts[1]) != 170 || parts[2] != nil || len(parts[3]) != 0 || len(parts[4]) != 10 {
		t.Fatal("Append changes what it is given")
	}
	for i := range room {
		room[i] = 0xee
	}
	told := j.All()
	for i := range told {
		b := told[i][:cap(told[i])]
		for k := range b {
			b[k] = 0xdd
		}
		told[i] = nil
		for k := i + 1; k < len(told); k++ {
			if strings.Contains(string(told[k]), "\xdd\xdd") {
				t.Fatal("two entries share memory")
			}
		}
	}
	for i, l := 0, told[:cap(told)]; i < len(l); i++ {
		l[i] = []byte("other")
	}
	has(t, "the journal", j, 50, want, want, long(500)[:100])
	has(t, "opened again", open(t, d, 0, 60, 7), 50, want, want, long(500)[:100])
}

// P4.1 to P4.3: long plays of all calls, with crashes and with epochs that
// rise, beside a list of texts.
func TestPlays(t *testing.T) {
	for seed := range int64(150) {
		r := rand.New(rand.NewSource(seed))
		size := 1 + r.Intn(40)
		from := r.Intn(size)
		to := from + 1 + r.Intn(size-from)
		d := newDisk(t, size)
		epoch := uint32(r.Intn(3))
		j := open(t, d, from, to, epoch)
		var want []string
		room := to - from
		for range 60 {
			switch x := r.Intn(10); {
			case x < 6:
				text := long(r.Intn(1 + r.Intn(300)))
				e := j.Append([]byte(text[:len(text)/2]), []byte(text[len(text)/2:]))
				if n := entry.Need(len(text)); n <= room && e == api.OK {
					want = append(want, text)
					room -= n
				} else if n <= room || e != api.ErrFull {
					t.Fatalf("seed %d: Append of %d bytes at Room %d is %v", seed, len(text), room, e)
				}
			case x < 7:
				epoch += 1 + uint32(r.Intn(2))
				j.Next(epoch)
				want, room = nil, to-from
			default:
				d.Crash(r.Intn(2) == 0, r.Intn(2) == 0)
				j = open(t, d, from, to, epoch)
			}
			has(t, "a play", j, room, want...)
		}
		if t.Failed() {
			t.Fatalf("seed %d", seed)
		}
	}
}
