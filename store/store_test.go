package store_test

import (
	"fmt"
	"math"
	"math/rand"
	"slices"
	"testing"

	"weirgate/api"
	"weirgate/codec"
	"weirgate/config"
	"weirgate/entry"
	"weirgate/sector"
	"weirgate/snap"
	"weirgate/store"
)

// The calls have exactly these signatures.
var (
	_ func(*sector.Disk, int) (*store.Store, api.Errno) = store.Open
	_ func(*store.Store, ...api.Edit) api.Errno         = (*store.Store).Commit
	_ func(*store.Store) api.Errno                      = (*store.Store).Save
	_ func(*store.Store) api.Config                     = (*store.Store).Config
	_ func(*store.Store) uint32                         = (*store.Store).Epoch
)

const (
	least       = 40 // sectors
	journalFrom = 32
	second      = 16 // the second snapshot's place
)

func newDisk(t *testing.T, n int) *sector.Disk {
	t.Helper()
	d, e := sector.New(n)
	if e != api.OK {
		t.Fatalf("New(%d) is %v", n, e)
	}
	return d
}

func open(t *testing.T, d *sector.Disk, ports int) *store.Store {
	t.Helper()
	s, e := store.Open(d, ports)
	if s == nil || e != api.OK {
		t.Fatalf("Open of %d ports is %v, %v", ports, s, e)
	}
	return s
}

func commit(t *testing.T, s *store.Store, edits ...api.Edit) {
	t.Helper()
	if e := s.Commit(edits...); e != api.OK {
		t.Fatalf("Commit of %d edits is %v", len(edits), e)
	}
}

func save(t *testing.T, s *store.Store) {
	t.Helper()
	if e := s.Save(); e != api.OK {
		t.Fatalf("Save is %v", e)
	}
}

func first(t *testing.T, ports int) api.Config {
	t.Helper()
	c, e := config.First(ports)
	if e != api.OK {
		t.Fatalf("First(%d) is %v", ports, e)
	}
	return c
}

func edited(t *testing.T, c api.Config, edits ...api.Edit) api.Config {
	t.Helper()
	c, e := config.Edit(c, edits...)
	if e != api.OK {
		t.Fatalf("Edit is %v", e)
	}
	return c
}

func cost(port, n int) api.Edit {
	return api.Edit{Kind: api.PortCost, Port: port, N: n}
}

// costs is n edits of one port, of which the last one counts.
func costs(n, last int) []api.Edit {
	var l []api.Edit
	for i := range n {
		l = append(l, cost(0, last+n-1-i))
	}
	return l
}

// vlans is edits that make n VLANs more, each of port 0, so that the
// configuration's bytes have no room in one sector.
func vlans(n int) []api.Edit {
	var l []api.Edit
	for i := range n {
		l = append(l, api.Edit{Kind: api.VlanSet, Vlan: 100 + i, Member: 1})
	}
	return l
}

// has asks what a store tells, and that one that is opened on a disk behind a
// crash tells the same.
func has(t *testing.T, where string, d *sector.Disk, s *store.Store, epoch uint32, c api.Config) {
	t.Helper()
	tells(t, where, s, epoch, c)
	if d.Pending() != 0 {
		t.Errorf("%s: %d writes are pending", where, d.Pending())
	}
	d.Crash()
	tells(t, where+", opened again", open(t, d, len(c.Ports)), epoch, c)
}

func tells(t *testing.T, where string, s *store.Store, epoch uint32, c api.Config) {
	t.Helper()
	if got := s.Config(); !config.Same(got, c) {
		t.Errorf("%s: Config is %v, not %v", where, got, c)
	}
	if s.Epoch() != epoch {
		t.Errorf("%s: Epoch is %d, not %d", where, s.Epoch(), epoch)
	}
}

func image(d *sector.Disk) [][api.Sector]byte {
	l := make([][api.Sector]byte, d.Len())
	for i := range l {
		l[i], _ = d.Read(i)
	}
	return l
}

func encode(t *testing.T, kind int, epoch, seq uint32, b []byte) [][api.Sector]byte {
	t.Helper()
	s, e := entry.Encode(entry.Entry{Kind: kind, Epoch: epoch, Seq: seq, B: b})
	if e != api.OK {
		t.Fatalf("Encode is %v", e)
	}
	return s
}

func configBytes(t *testing.T, c api.Config) []byte {
	t.Helper()
	b, e := codec.Config(c)
	if e != api.OK {
		t.Fatalf("Config is %v", e)
	}
	return b
}

func editBytes(t *testing.T, edits ...api.Edit) []byte {
	t.Helper()
	b, e := codec.Edits(edits...)
	if e != api.OK {
		t.Fatalf("Edits is %v", e)
	}
	return b
}

// write writes sectors one behind the other, and makes them last.
func write(t *testing.T, d *sector.Disk, at int, s [][api.Sector]byte) {
	t.Helper()
	for i := range s {
		if e := d.Write(at+i, s[i]); e != api.OK {
			t.Fatalf("Write(%d) is %v", at+i, e)
		}
	}
	d.Flush()
}

// logged writes entries of an epoch into the journal's place.
func logged(t *testing.T, d *sector.Disk, epoch uint32, entries ...[]byte) {
	t.Helper()
	at := journalFrom
	for i, b := range entries {
		s := encode(t, 1, epoch, uint32(i), b)
		write(t, d, at, s)
		at += len(s)
	}
}

// noisy is a disk whose every byte stands for its sector, and has no mark of an
// entry's.
func noisy(t *testing.T, n int) *sector.Disk {
	t.Helper()
	d := newDisk(t, n)
	for i := range n {
		var s [api.Sector]byte
		for k := range s {
			s[k] = 0x80 + byte(i%0x70)
		}
		write(t, d, i, [][api.Sector]byte{s})
	}
	return d
}

// P8.1: a disk without a snapshot: the first configuration of its ports is
// saved with epoch 1, and nothing else is written; of all counts of ports, and
// of disks from the least one to the greatest.
func TestNewDisk(t *testing.T) {
	for ports := 1; ports <= api.MaxPorts; ports++ {
		for _, size := range []int{least, least + 1, 64, 500, api.MaxDisk} {
			d := noisy(t, size)
			want := image(d)
			copy(want, encode(t, 2, 1, 0, configBytes(t, first(t, ports))))
			s := open(t, d, ports)
			if !slices.Equal(image(d), want) {
				t.Errorf("%d ports, %d sectors: the disk is another", ports, size)
			}
			has(t, "a new disk", d, s, 1, first(t, ports))
			if !slices.Equal(image(d), want) {
				t.Errorf("%d ports, %d sectors: opened again, the disk is another", ports, size)
			}
		}
	}
}

// P8.1, P8.2: the bytes on the disk, written out by hand.
func TestBytesByHand(t *testing.T) {
	d := newDisk(t, least)
	commit(t, open(t, d, 1), cost(0, 7))
	want := make([][api.Sector]byte, least)
	copy(want[0][:], "\x57\x02\x00\x00\x00\x01\x00\x00\x00\x00\x00\x12"+
		"\x80\x00\x14\x0f\x01\x01\x00\x00\x4e\x20\x00\x01\x01\x00\x01\x01\x00\x00\x11\x42\x01\x2d")
	copy(want[32][:], "\x57\x01\x00\x00\x00\x01\x00\x00\x00\x00\x00\x11"+
		"\x01\x05\x00\x00\x00\x00\x07\x00\x00\x00\x00\x00\x00\x00\x00\x00\x00\x02\x30\x00\x21")
	for i, s := range image(d) {
		if s != want[i] {
			t.Errorf("sector %d is % x", i, s)
		}
	}
}

// P8.1: to open a store that stands there already neither writes nor flushes.
func TestOpenAgainWritesNothing(t *testing.T) {
	d := newDisk(t, 64)
	s := open(t, d, 3)
	commit(t, s, cost(0, 5))
	save(t, s)
	commit(t, s, cost(1, 6))
	want := edited(t, first(t, 3), cost(0, 5), cost(1, 6))
	d.Write(60, [api.Sector]byte{9})
	was := image(d)
	for range 3 {
		tells(t, "opened again", open(t, d, 3), 2, want)
		if d.Pending() != 1 || !slices.Equal(image(d), was) {
			t.Fatal("Open changes the disk")
		}
	}
}

// P8.1: without its journal's entries, with one, and with many; each by all its
// edits, in the order of the entries.
func TestOpenAgain(t *testing.T) {
	d := newDisk(t, 400)
	s := open(t, d, 2)
	c := first(t, 2)
	has(t, "no entries", d, s, 1, c)
	for i := range 60 {
		l := []api.Edit{cost(0, 1+i), cost(i%2, 1000+i), {Kind: api.SetPrio, N: 4096 * (i % 16)}}
		commit(t, s, l...)
		c = edited(t, c, l...)
		has(t, fmt.Sprintf("%d entries", i+1), d, s, 1, c)
	}
}

// P8.1: a store goes on from where another one on the same disk was.
func TestGoesOn(t *testing.T) {
	d := newDisk(t, 48)
	c := first(t, 3)
	for i := range 100 {
		s := open(t, d, 3)
		commit(t, s, cost(i%3, 1+i))
		c = edited(t, c, cost(i%3, 1+i))
		if i%7 == 3 {
			save(t, s)
		}
		has(t, fmt.Sprintf("life %d", i), d, s, s.Epoch(), c)
	}
}

// refused asks for an error of Open, and that it leaves the disk as it is.
func refused(t *testing.T, where string, d *sector.Disk, ports int, want api.Errno) {
	t.Helper()
	was, pending := image(d), d.Pending()
	if s, e := store.Open(d, ports); s != nil || e != want {
		t.Errorf("%s: Open of %d ports is %v, %v, not %v", where, ports, s, e, want)
	}
	if !slices.Equal(image(d), was) || d.Pending() != pending {
		t.Errorf("%s: Open of %d ports changes the disk", where, ports)
	}
}

// P8.1: a disk that is not there, that nobody made, or that is too small; ports
// that are too few, or too many. What stands on the disk is not asked then.
func TestOpenArguments(t *testing.T) {
	spoil := func(d *sector.Disk) *sector.Disk {
		d.Write(0, encode(t, 2, 1, 0, []byte("no configuration"))[0])
		return d
	}
	for _, ports := range []int{1, 2, api.MaxPorts, 0, -1, api.MaxPorts + 1, 256, math.MaxInt, math.MinInt} {
		refused(t, "no disk", nil, ports, api.ErrArg)
		refused(t, "a disk that nobody made", &sector.Disk{}, ports, api.ErrArg)
		for size := 1; size < least; size++ {
			refused(t, "a small disk", newDisk(t, size), ports, api.ErrArg)
			refused(t, "a small disk, spoiled", spoil(newDisk(t, size)), ports, api.ErrArg)
		}
		if ports >= 1 && ports <= api.MaxPorts {
			open(t, newDisk(t, least), ports)
			continue
		}
		for _, size := range []int{least, least + 1, 64, api.MaxDisk} {
			refused(t, "wrong ports", newDisk(t, size), ports, api.ErrArg)
			refused(t, "wrong ports, spoiled", spoil(newDisk(t, size)), ports, api.ErrArg)
		}
	}
}

// P8.1, P8.2: what a store that is not there answers, and one that nobody made.
func TestNoStore(t *testing.T) {
	for _, s := range []*store.Store{nil, {}, new(store.Store)} {
		for _, l := range [][]api.Edit{nil, {}, {cost(0, 5)}, {cost(9, 5)}, {{Kind: 99}}, {{Kind: api.SetPrio, Port: 300}}, costs(33, 1), make([]api.Edit, 1000)} {
			if e := s.Commit(l...); e != api.ErrArg {
				t.Errorf("Commit of %d edits is %v", len(l), e)
			}
		}
		for range 2 {
			if e := s.Save(); e != api.ErrArg {
				t.Errorf("Save is %v", e)
			}
			tells(t, "no store", s, 0, api.Config{})
		}
	}
}

// P8.1: a newest snapshot that is no configuration that may be.
func TestSnapshotForms(t *testing.T) {
	good := configBytes(t, first(t, 2))
	turned := func(at int, x byte) []byte {
		b := slices.Clone(good)
		b[at] = x
		return b
	}
	for i, b := range [][]byte{
		nil, {0}, []byte("no configuration"), make([]byte, 993),
		good[:len(good)-1], good[1:], slices.Concat(good, []byte{0}), slices.Concat(good, good),
		turned(0, 0x81), turned(2, 41), turned(3, 3), turned(4, 0), turned(4, 1), turned(4, 3), turned(5, 2),
		turned(len(good)-1, 1), configBytes(t, first(t, 2))[4:], editBytes(t, cost(0, 5)),
	} {
		for _, epoch := range []uint32{0, 1, 2, math.MaxUint32} {
			d := newDisk(t, 64)
			if e := snap.Save(d, epoch, b); e != api.OK {
				t.Fatalf("Save is %v", e)
			}
			refused(t, fmt.Sprintf("bytes %d, epoch %d", i, epoch), d, 2, api.ErrForm)
		}
	}
}

// P8.1: it is the newest snapshot that counts, at whichever place.
func TestNewestSnapshot(t *testing.T) {
	bad := []byte("no configuration")
	c := edited(t, first(t, 2), cost(0, 5))
	elder := edited(t, first(t, 2), cost(0, 4))
	for _, x := range []struct {
		name     string
		a, b     uint32 // the epochs at the first and at the second place
		newestAt int
	}{
		{"the first place", 5, 3, 0}, {"the second place", 3, 5, second}, {"two alike", 5, 5, 0},
		{"the greatest epoch", math.MaxUint32, 0, 0}, {"the least ones", 0, 1, second},
	} {
		other, epoch, otherEpoch := second, x.a, x.b
		if x.newestAt == second {
			other, epoch, otherEpoch = 0, x.b, x.a
		}
		for i, b := range [][]byte{configBytes(t, elder), bad, configBytes(t, first(t, 3))} {
			d := newDisk(t, 48)
			write(t, d, x.newestAt, encode(t, 2, epoch, 0, configBytes(t, c)))
			write(t, d, other, encode(t, 2, otherEpoch, 0, b))
			has(t, fmt.Sprintf("%s, other %d", x.name, i), d, open(t, d, 2), epoch, c)

			d = newDisk(t, 48)
			write(t, d, x.newestAt, encode(t, 2, epoch, 0, bad))
			write(t, d, other, encode(t, 2, otherEpoch, 0, b))
			refused(t, x.name+", spoiled", d, 2, api.ErrForm)
		}
	}
}

// P8.1: a snapshot of any other count of ports.
func TestOtherPorts(t *testing.T) {
	for was := 1; was <= api.MaxPorts; was++ {
		d := newDisk(t, 64)
		s := open(t, d, was)
		commit(t, s, cost(0, 5))
		for ports := 1; ports <= api.MaxPorts; ports++ {
			if ports == was {
				has(t, "its ports", d, s, 1, edited(t, first(t, was), cost(0, 5)))
			} else {
				refused(t, "other ports", d, ports, api.ErrForm)
			}
		}
	}
}

// P8.1: what is no snapshot leaves the disk without one.
func TestNoSnapshot(t *testing.T) {
	b := configBytes(t, edited(t, first(t, 2), cost(0, 5)))
	broken := encode(t, 2, 7, 0, b)
	broken[0][20] ^= 1
	for name, s := range map[string][][api.Sector]byte{
		"another kind":     encode(t, 1, 7, 0, b),
		"another sequence": encode(t, 2, 7, 1, b),
		"a byte turned":    broken,
		"too long":         encode(t, 2, 7, 0, make([]byte, 994)),
	} {
		for _, at := range []int{0, second} {
			d := newDisk(t, 64)
			write(t, d, at, s)
			has(t, name, d, open(t, d, 2), 1, first(t, 2))
		}
	}
}

// P8.1: entries that are no edits, or whose edits can't be applied where they
// stand: as the first one, and behind others that can.
func TestEntryForms(t *testing.T) {
	one := editBytes(t, cost(0, 5))
	many := slices.Concat([]byte{33}, slices.Repeat(one[1:], 33))
	for i, b := range [][]byte{
		nil, []byte("?"), {1}, {0, 0}, one[:len(one)-1], one[1:], slices.Concat(one, []byte{0}), slices.Concat(one, one),
		many, make([]byte, 4000), configBytes(t, first(t, 2)),
		slices.Concat([]byte{1, 0}, one[2:]), slices.Concat([]byte{1, 11}, one[2:]),
		editBytes(t, cost(2, 5)), editBytes(t, cost(0, 0)), editBytes(t, cost(0, 200000001)), editBytes(t, cost(0, math.MaxUint32)),
		editBytes(t, api.Edit{Kind: api.PortUp, N: 2}), editBytes(t, api.Edit{Kind: api.PortPvid, N: 9}),
		editBytes(t, api.Edit{Kind: api.VlanDel, Vlan: 9}), editBytes(t, api.Edit{Kind: api.VlanDel, Vlan: 1}),
		editBytes(t, api.Edit{Kind: api.StaticDel, Mac: 5, Vlan: 1}), editBytes(t, api.Edit{Kind: api.StaticSet, Mac: 5, Vlan: 9}),
		editBytes(t, api.Edit{Kind: api.SetPrio, N: 1}), editBytes(t, cost(0, 5), cost(1, 0)), editBytes(t, vlans(16)...),
	} {
		for ahead := range 3 {
			for _, behind := range [][][]byte{nil, {one}} {
				d := newDisk(t, 200)
				save(t, open(t, d, 2)) // its epoch is 2
				entries := slices.Concat(slices.Repeat([][]byte{one}, ahead), [][]byte{b}, behind)
				logged(t, d, 2, entries...)
				refused(t, fmt.Sprintf("entry %d behind %d, ahead of %d", i, ahead, len(behind)), d, 2, api.ErrForm)
			}
		}
	}
}

// P8.1: an entry is applied where it stands: what needs an entry ahead of it
// can't be applied without that one.
func TestEntriesHangOnEachOther(t *testing.T) {
	make10 := api.Edit{Kind: api.VlanSet, Vlan: 10, Member: 3}
	use10 := api.Edit{Kind: api.PortPvid, Port: 1, N: 10}
	d := newDisk(t, 64)
	open(t, d, 2)
	logged(t, d, 1, editBytes(t, make10), editBytes(t, use10))
	has(t, "in order", d, open(t, d, 2), 1, edited(t, first(t, 2), make10, use10))
	logged(t, d, 1, editBytes(t, use10), editBytes(t, make10))
	refused(t, "the other way round", d, 2, api.ErrForm)
	logged(t, d, 1, editBytes(t, use10, make10))
	write(t, d, journalFrom+1, make([][api.Sector]byte, 1))
	has(t, "in one entry", d, open(t, d, 2), 1, edited(t, first(t, 2), make10, use10))
}

// P8.1: what is no entry of the journal does not count, whatever its bytes.
func TestNoEntries(t *testing.T) {
	bad := []byte("no edits")
	broken := encode(t, 1, 1, 0, bad)
	broken[0][13] ^= 1
	for name, s := range map[string][][api.Sector]byte{
		"an elder epoch":   encode(t, 1, 0, 0, bad),
		"a later epoch":    encode(t, 1, 2, 0, bad),
		"another kind":     encode(t, 2, 1, 0, bad),
		"another sequence": encode(t, 1, 1, 1, bad),
		"a byte turned":    broken,
		"not as a whole":   encode(t, 1, 1, 0, make([]byte, 4000))[:32],
	} {
		d := newDisk(t, 64)
		open(t, d, 2)
		write(t, d, journalFrom, s)
		has(t, name, d, open(t, d, 2), 1, first(t, 2))
	}
	d := newDisk(t, 64)
	s := open(t, d, 2)
	commit(t, s, cost(0, 5))
	write(t, d, journalFrom+2, encode(t, 1, 1, 1, bad))
	has(t, "behind a gap", d, s, 1, edited(t, first(t, 2), cost(0, 5)))
	commit(t, s, cost(0, 6))
	write(t, d, journalFrom+2, encode(t, 1, 1, 3, bad))
	has(t, "behind a sequence that is not there", d, s, 1, edited(t, first(t, 2), cost(0, 6)))
}

// P8.1: without a snapshot the first one is saved with epoch 1, and then the
// journal of that epoch is taken as any other.
func TestEntriesWithoutSnapshot(t *testing.T) {
	d := newDisk(t, 64)
	logged(t, d, 1, editBytes(t, cost(0, 5)), editBytes(t, cost(1, 6)))
	has(t, "without a snapshot", d, open(t, d, 2), 1, edited(t, first(t, 2), cost(0, 5), cost(1, 6)))
	d = newDisk(t, 64)
	logged(t, d, 0, editBytes(t, cost(0, 5)))
	has(t, "of another epoch", d, open(t, d, 2), 1, first(t, 2))
	d = newDisk(t, 64)
	logged(t, d, 1, editBytes(t, cost(2, 5)))
	if s, e := store.Open(d, 2); s != nil || e != api.ErrForm {
		t.Errorf("Open is %v, %v", s, e)
	}
}

// P8.1: what is read is what was written last, whether or not it is flushed.
func TestPendingWrites(t *testing.T) {
	d := newDisk(t, 64)
	open(t, d, 2)
	d.Write(journalFrom, encode(t, 1, 1, 0, editBytes(t, cost(0, 5)))[0])
	s := open(t, d, 2)
	tells(t, "pending", s, 1, edited(t, first(t, 2), cost(0, 5)))
	commit(t, s, cost(1, 6))
	has(t, "flushed by a Commit", d, s, 1, edited(t, first(t, 2), cost(0, 5), cost(1, 6)))
}

// P8.1: what is told is new memory, its spare room too; what is handed in is
// neither changed nor kept.
func TestMemory(t *testing.T) {
	d := newDisk(t, 400)
	s := open(t, d, 3)
	room := append([]api.Edit{cost(2, 1)}, vlans(3)...)
	room = append(room, api.Edit{Kind: api.StaticSet, Mac: 5, Vlan: 1, Port: 1}, cost(2, 2))
	was := slices.Clone(room)
	l := room[1 : len(room)-1]
	want := edited(t, first(t, 3), l...)
	commit(t, s, l...)
	if !slices.Equal(room, was) {
		t.Fatal("Commit changes what it is given")
	}
	for i := range room {
		room[i] = api.Edit{Kind: api.SetPrio, N: 0}
	}
	a, b := s.Config(), s.Config()
	spoil(a)
	if !config.Same(b, want) {
		t.Error("two answers share memory")
	}
	has(t, "what was told is changed", d, s, 1, want)
	u := open(t, d, 3)
	spoil(u.Config())
	tells(t, "what another one told is changed", s, 1, want)
	commit(t, s, cost(0, 9))
	spoil(s.Config())
	has(t, "then a Commit", d, s, 1, edited(t, want, cost(0, 9)))
	save(t, s)
	spoil(s.Config())
	has(t, "then a Save", d, s, 2, edited(t, want, cost(0, 9)))
}

// spoil overwrites a configuration's lists, their spare room too.
func spoil(c api.Config) {
	for i, l := 0, c.Ports[:cap(c.Ports)]; i < len(l); i++ {
		l[i].Cost += 7
	}
	for i, l := 0, c.Vlans[:cap(c.Vlans)]; i < len(l); i++ {
		l[i].Id += 7
	}
	for i, l := 0, c.Statics[:cap(c.Statics)]; i < len(l); i++ {
		l[i].Mac += 7
	}
}

// P8.1: two disks have nothing in common.
func TestTwoStores(t *testing.T) {
	a, b := newDisk(t, 64), newDisk(t, 64)
	x, y := open(t, a, 2), open(t, b, 5)
	commit(t, x, cost(0, 5))
	save(t, y)
	commit(t, y, cost(4, 6))
	has(t, "the one", a, x, 1, edited(t, first(t, 2), cost(0, 5)))
	has(t, "the other one", b, y, 2, edited(t, first(t, 5), cost(4, 6)))
}

// model is the chapter's words by another way: the configuration, and where the
// journal's end is.
type model struct {
	size   int
	c      api.Config
	epoch  uint32
	length int // of the journal, in sectors
}

func (m *model) save() {
	m.epoch++
	m.length = 0
}

// commit is what Commit of some edits should answer.
func (m *model) commit(edits ...api.Edit) api.Errno {
	c, e := config.Edit(m.c, edits...)
	if e != api.OK {
		return e
	}
	b, e := codec.Edits(edits...)
	if e != api.OK {
		return e
	}
	n := entry.Need(len(b))
	if m.length+n > m.size-journalFrom {
		m.save()
	}
	if n > m.size-journalFrom {
		return api.ErrFull
	}
	m.length += n
	m.c = c
	return api.OK
}

// anyEdits is edits most of which can be made.
func anyEdits(r *rand.Rand, ports int) []api.Edit {
	var l []api.Edit
	if r.Intn(8) == 0 {
		return costs(30+r.Intn(5), 1+r.Intn(1000))
	}
	for range r.Intn(1 + r.Intn(34)) {
		e := api.Edit{Port: r.Intn(ports), Vlan: 1 + r.Intn(5), Mac: uint64(1 + r.Intn(5))}
		switch r.Intn(12) {
		case 0:
			e.Kind, e.N = api.SetPrio, 4096*r.Intn(16)
		case 1:
			e.Kind, e.N = api.PortUp, r.Intn(2)
		case 2:
			e.Kind, e.Member = api.VlanSet, uint8(r.Intn(1<<ports))
			e.Tagged = e.Member & uint8(r.Intn(256))
		case 3:
			e.Kind = api.StaticSet
		case 4:
			if r.Intn(10) == 0 {
				e.Kind = 1 + r.Intn(11)
			} else {
				e.Kind = api.SetDelay
				e.N = 11 + r.Intn(20)
			}
		default:
			e.Kind, e.N = api.PortCost, 1+r.Intn(1000)
		}
		if r.Intn(400) == 0 {
			e.Mac = 1 << 48 // refused by config, or by codec alone
		}
		l = append(l, e)
	}
	return l
}

// P8.1, P8.2, P8.3: long plays of Commits, of Saves, of crashes and of stores
// that are opened again, beside the model.
func TestPlays(t *testing.T) {
	seen := map[api.Errno]int{}
	for seed := range int64(150) {
		r := rand.New(rand.NewSource(seed))
		ports := 1 + r.Intn(api.MaxPorts)
		m := model{size: least + r.Intn(1+r.Intn(30)), c: first(t, ports), epoch: 1}
		d := newDisk(t, m.size)
		s := open(t, d, ports)
		for step := range 80 {
			where := fmt.Sprintf("seed %d, step %d", seed, step)
			switch x := r.Intn(20); {
			case x < 15:
				l := anyEdits(r, ports)
				want := m.commit(l...)
				seen[want]++
				if e := s.Commit(l...); e != want {
					t.Fatalf("%s: Commit is %v, not %v", where, e, want)
				}
			case x < 16:
				save(t, s)
				m.save()
			case x < 18:
				d.Crash(r.Intn(2) == 0, r.Intn(2) == 0)
				s = open(t, d, ports)
			default:
				has(t, where, d, s, m.epoch, m.c)
			}
			tells(t, where, s, m.epoch, m.c)
			if d.Pending() != 0 || t.Failed() {
				t.Fatalf("%s: %d are pending", where, d.Pending())
			}
		}
	}
	for _, e := range []api.Errno{api.OK, api.ErrMany, api.ErrForm, api.ErrFull, api.ErrNone, api.ErrConfig} {
		if seen[e] < 5 {
			t.Errorf("%d Commits only are %v", seen[e], e)
		}
	}
}
