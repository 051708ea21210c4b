package store_test

import (
	"fmt"
	"math"
	"slices"
	"testing"

	"weirgate/api"
	"weirgate/config"
	"weirgate/sector"
	"weirgate/snap"
)

// P8.2: each Commit is one entry behind the others, and nothing else is
// written.
func TestEntriesOnTheDisk(t *testing.T) {
	d := noisy(t, 200)
	s := open(t, d, 3)
	save(t, s)
	want := image(d)
	at := journalFrom
	for i, l := range [][]api.Edit{{cost(0, 5)}, nil, costs(2, 1), costs(3, 1), vlans(15), {{Kind: api.VlanDel, Vlan: 103}, cost(1, 3)}, costs(32, 9)} {
		commit(t, s, l...)
		entry := encode(t, 1, 2, uint32(i), editBytes(t, l...))
		copy(want[at:], entry)
		at += len(entry)
		if !slices.Equal(image(d), want) {
			t.Fatalf("behind Commit %d the disk is another", i)
		}
		if d.Pending() != 0 {
			t.Errorf("behind Commit %d %d writes are pending", i, d.Pending())
		}
	}
}

// P8.2: a Commit of one edit of each kind.
func TestEveryKind(t *testing.T) {
	d := newDisk(t, 64)
	s := open(t, d, 4)
	c := first(t, 4)
	for _, e := range []api.Edit{
		{Kind: api.SetPrio, N: 61440}, {Kind: api.SetAge, N: 6}, {Kind: api.SetDelay, N: 4},
		{Kind: api.PortUp, Port: 3}, {Kind: api.PortCost, Port: 2, N: 200000000},
		{Kind: api.VlanSet, Vlan: 4094, Member: 15, Tagged: 9}, {Kind: api.PortPvid, Port: 1, N: 4094},
		{Kind: api.StaticSet, Mac: 1<<48 - 1 - 1<<40, Vlan: 4094, Port: 3}, {Kind: api.StaticSet, Mac: 1, Vlan: 1, Port: 1},
		{Kind: api.StaticDel, Mac: 1, Vlan: 1}, {Kind: api.PortPvid, Port: 1, N: 1},
		{Kind: api.StaticDel, Mac: 1<<48 - 1 - 1<<40, Vlan: 4094}, {Kind: api.VlanDel, Vlan: 4094},
	} {
		commit(t, s, e)
		c = edited(t, c, e)
		has(t, fmt.Sprint(e), d, s, 1, c)
	}
}

// P8.2: a Commit whose edits make sense together only.
func TestTogether(t *testing.T) {
	d := newDisk(t, 64)
	s := open(t, d, 2)
	l := []api.Edit{{Kind: api.PortPvid, Port: 1, N: 10}, {Kind: api.VlanSet, Vlan: 10, Member: 3}, {Kind: api.SetAge, N: 40}, {Kind: api.SetDelay, N: 30}}
	for i := range l {
		if e := s.Commit(l[i]); i != 1 && i != 3 && e != api.ErrConfig {
			t.Errorf("Commit of %v is %v", l[i], e)
		}
	}
	commit(t, s, api.Edit{Kind: api.VlanDel, Vlan: 10}, api.Edit{Kind: api.SetDelay, N: 15})
	has(t, "as it was", d, s, 1, first(t, 2))
	commit(t, s, l...)
	has(t, "together", d, s, 1, edited(t, first(t, 2), l...))
}

// refusal is edits that Commit refuses.
type refusal struct {
	name  string
	edits []api.Edit
	errno api.Errno
}

// refusals is what two ports refuse, with the first error of those that apply:
// those of config.Edit (the first edit's that fails; how many there are, ahead
// of all), then those of codec.Edits.
func refusals() []refusal {
	wide := api.Edit{Kind: api.SetPrio, N: 4096, Port: 300} // config takes it, codec does not
	return []refusal{
		{"a port that is not there", []api.Edit{cost(2, 5)}, api.ErrArg},
		{"a cost of no 32 bits", []api.Edit{cost(0, 1<<32)}, api.ErrArg},
		{"a cost of 0", []api.Edit{cost(0, 0)}, api.ErrConfig},
		{"the last one fails", []api.Edit{cost(0, 5), cost(1, 6), cost(2, 7)}, api.ErrArg},
		{"no such kind", []api.Edit{{Kind: 0}}, api.ErrForm},
		{"no such kind", []api.Edit{{Kind: 11}}, api.ErrForm},
		{"no such VLAN", []api.Edit{{Kind: api.VlanDel, Vlan: 7}}, api.ErrNone},
		{"no such address", []api.Edit{{Kind: api.StaticDel, Mac: 7, Vlan: 1}}, api.ErrNone},
		{"a VLAN in use", []api.Edit{{Kind: api.VlanDel, Vlan: 1}}, api.ErrConfig},
		{"too many VLANs", vlans(16), api.ErrConfig},
		{"too many edits", costs(33, 1), api.ErrMany},
		{"far too many edits", make([]api.Edit, 5000), api.ErrMany},
		{"a port of no byte", []api.Edit{wide}, api.ErrForm},
		{"a port below 0", []api.Edit{{Kind: api.SetPrio, Port: -1}}, api.ErrForm},
		{"a number of no 32 bits", []api.Edit{{Kind: api.VlanSet, Vlan: 9, N: 1 << 32}}, api.ErrForm},
		{"a number below 0", []api.Edit{{Kind: api.VlanSet, Vlan: 9, N: -1}}, api.ErrForm},
		{"a VLAN of no 16 bits", []api.Edit{{Kind: api.SetPrio, Vlan: 65536}}, api.ErrForm},
		{"an address of no 48 bits", []api.Edit{{Kind: api.SetPrio, Mac: 1 << 48}}, api.ErrForm},
		{"ErrMany ahead of an edit's own error", append(costs(33, 1), cost(2, 5)), api.ErrMany},
		{"the first edit's error", []api.Edit{{Kind: api.VlanDel, Vlan: 7}, cost(2, 5)}, api.ErrNone},
		{"the first edit's error", []api.Edit{cost(2, 5), {Kind: api.VlanDel, Vlan: 7}}, api.ErrArg},
		{"an edit's error ahead of ErrConfig", []api.Edit{cost(0, 0), {Kind: api.VlanDel, Vlan: 7}}, api.ErrNone},
		{"config's error ahead of codec's", []api.Edit{wide, cost(2, 5)}, api.ErrArg},
		{"config's error ahead of codec's", []api.Edit{wide, cost(0, 0)}, api.ErrConfig},
		{"config's error ahead of codec's", []api.Edit{wide, {Kind: api.VlanDel, Vlan: 7}}, api.ErrNone},
	}
}

// P8.2: what is refused changes nothing, neither the store nor the disk, also
// where the journal has no room left: that is asked only of edits that can be
// made.
func TestRefused(t *testing.T) {
	for _, full := range []int{0, 1, 8} {
		d := newDisk(t, least)
		s := open(t, d, 2)
		c := first(t, 2)
		for i := range full {
			commit(t, s, cost(0, 1+i))
			c = edited(t, c, cost(0, 1+i))
		}
		was := image(d)
		for _, x := range refusals() {
			if e := s.Commit(x.edits...); e != x.errno {
				t.Errorf("%s: Commit is %v, not %v", x.name, e, x.errno)
			}
			if !slices.Equal(image(d), was) || d.Pending() != 0 {
				t.Errorf("%s: Commit changes the disk", x.name)
			}
			tells(t, x.name, s, 1, c)
		}
		has(t, "behind all refusals", d, s, 1, c)
		commit(t, s, cost(1, 9))
		has(t, "then a Commit", d, s, uint32(1+full/8), edited(t, c, cost(1, 9)))
	}
}

// P8.2: a Commit of no edits is an entry too: eight of them fill the least
// journal, and the ninth one makes a Save.
func TestNoEdits(t *testing.T) {
	for _, none := range [][]api.Edit{nil, {}} {
		d := newDisk(t, least)
		s := open(t, d, 2)
		for i := range 20 {
			commit(t, s, none...)
			got, _ := d.Read(journalFrom + i%8)
			if got != encode(t, 1, uint32(1+i/8), uint32(i%8), []byte{0})[0] {
				t.Errorf("Commit %d is not at its place", i)
			}
			has(t, fmt.Sprintf("Commit %d", i), d, s, uint32(1+i/8), first(t, 2))
		}
	}
}

// P8.2: the most edits that a Commit may have, and those of all smaller counts.
func TestMostEdits(t *testing.T) {
	d := newDisk(t, api.MaxDisk)
	s := open(t, d, 1)
	for n := range api.MaxEdits + 1 {
		commit(t, s, costs(n, 1+n)...)
		if n > 0 {
			has(t, "edits", d, s, 1, edited(t, first(t, 1), cost(0, 1+n)))
		}
	}
	if e := s.Commit(costs(api.MaxEdits+1, 1)...); e != api.ErrMany {
		t.Errorf("Commit of one more is %v", e)
	}
}

// P8.2: a full journal: the configuration ahead of the Commit is saved with the
// epoch and 1, and the entry is the first one of that epoch.
func TestFullJournal(t *testing.T) {
	for _, size := range []int{least, least + 1, least + 9, 64} {
		d := noisy(t, size)
		s := open(t, d, 3)
		c := edited(t, first(t, 3), vlans(12)...)
		if e := s.Commit(vlans(12)...); e != api.OK {
			t.Fatalf("Commit is %v", e)
		}
		room := size - journalFrom - 4 // 12 edits: 4 sectors
		epoch := uint32(1)
		for i := range 150 {
			want := image(d)
			at, seq := size-room, uint32(0)
			if epoch == 1 {
				seq = uint32(1 + i)
			} else {
				seq = uint32(at - journalFrom)
			}
			if room == 0 {
				epoch++
				place := []int{second, 0}[epoch%2]
				copy(want[place:], encode(t, 2, epoch, 0, configBytes(t, c)))
				at, seq, room = journalFrom, 0, size-journalFrom
			}
			room--
			want[at] = encode(t, 1, epoch, seq, editBytes(t, cost(i%3, 1+i)))[0]
			commit(t, s, cost(i%3, 1+i))
			c = edited(t, c, cost(i%3, 1+i))
			for k, got := range image(d) {
				if got != want[k] {
					t.Fatalf("%d sectors, Commit %d: sector %d is % x", size, i, k, got)
				}
			}
			has(t, fmt.Sprintf("%d sectors, Commit %d", size, i), d, s, epoch, c)
		}
		if epoch < 4 {
			t.Errorf("the epoch is %d only", epoch)
		}
	}
}

// P8.2: an entry that has just room, and one that has a sector less than it
// needs, which makes a Save.
func TestJustRoom(t *testing.T) {
	for n := range 8 {
		for need := 1; need <= 8; need++ {
			d := newDisk(t, least)
			s := open(t, d, 1)
			for range n {
				commit(t, s)
			}
			edits := []int{0, 1, 6, 10, 13, 17, 21, 24, 28}[need]
			if got := len(encode(t, 1, 1, 0, editBytes(t, costs(edits, 7)...))); got != need {
				t.Fatalf("%d edits need %d sectors", edits, got)
			}
			commit(t, s, costs(edits, 7)...)
			epoch := uint32(1)
			if n+need > 8 {
				epoch = 2
			}
			has(t, fmt.Sprintf("%d entries, then one of %d sectors", n, need), d, s, epoch, edited(t, first(t, 1), cost(0, 7)))
		}
	}
}

// P8.2: edits that have no room in any journal of this disk: there is a Save,
// then the error; the configuration stays, the epoch is the saved one.
func TestNoRoomAtAll(t *testing.T) {
	for _, n := range []int{0, 1, 7, 8} {
		d := newDisk(t, least)
		s := open(t, d, 2)
		c := first(t, 2)
		for i := range n {
			commit(t, s, cost(1, 2+i))
			c = edited(t, c, cost(1, 2+i))
		}
		for i := range 5 {
			epoch := uint32(2 + i)
			want := image(d)
			copy(want[[]int{second, 0}[epoch%2]:], encode(t, 2, epoch, 0, configBytes(t, c)))
			if e := s.Commit(costs(32, 9)...); e != api.ErrFull {
				t.Errorf("Commit is %v", e)
			}
			if !slices.Equal(image(d), want) {
				t.Errorf("%d entries, Commit %d: the disk is another", n, i)
			}
			has(t, "no room at all", d, s, epoch, c)
		}
		commit(t, s, cost(1, 50))
		has(t, "then one that has room", d, s, 6, edited(t, c, cost(1, 50)))
	}
	d := newDisk(t, least+1)
	s := open(t, d, 2)
	for i := range 5 {
		commit(t, s, costs(32, 9+i)...)
		has(t, "a sector more", d, s, uint32(1+i), edited(t, first(t, 2), cost(0, 9+i)))
	}
}

// P8.2: a Save: the configuration as a snapshot of the next epoch, by turns at
// the two places; nothing else is written, and elder entries don't count.
func TestSave(t *testing.T) {
	d := noisy(t, 64)
	s := open(t, d, 2)
	c := first(t, 2)
	for i := range 40 {
		for k := range i % 4 {
			l := []api.Edit{cost(k%2, 1+i)}
			if i == 9 {
				l = vlans(5 + k)
			}
			commit(t, s, l...)
			c = edited(t, c, l...)
		}
		epoch := uint32(2 + i)
		want := image(d)
		copy(want[[]int{second, 0}[epoch%2]:], encode(t, 2, epoch, 0, configBytes(t, c)))
		save(t, s)
		if !slices.Equal(image(d), want) {
			t.Fatalf("behind Save %d the disk is another", i)
		}
		has(t, fmt.Sprintf("Save %d", i), d, s, epoch, c)
	}
}

// P8.2: the longest configuration that may be is saved too.
func TestLongestConfig(t *testing.T) {
	d := newDisk(t, 64)
	s := open(t, d, api.MaxPorts)
	c := first(t, api.MaxPorts)
	var statics []api.Edit
	for i := range api.MaxStatic {
		statics = append(statics, api.Edit{Kind: api.StaticSet, Mac: 1<<48 - 1 - 1<<40 - uint64(i), Vlan: 1, Port: 7})
	}
	for _, l := range [][]api.Edit{vlans(15), statics, {cost(7, 5)}} {
		commit(t, s, l...)
		c = edited(t, c, l...)
		save(t, s)
	}
	if n := len(configBytes(t, c)); n != 271 {
		t.Errorf("it has %d bytes", n)
	}
	has(t, "the longest", d, s, 4, c)
	if e := s.Commit(api.Edit{Kind: api.VlanSet, Vlan: 50}); e != api.ErrConfig {
		t.Errorf("one VLAN more is %v", e)
	}
}

// at is a disk with a snapshot of any epoch.
func at(t *testing.T, size int, epoch uint32, c api.Config) *sector.Disk {
	t.Helper()
	d := newDisk(t, size)
	if e := snap.Save(d, epoch, configBytes(t, c)); e != api.OK {
		t.Fatalf("Save is %v", e)
	}
	return d
}

// P8.1, P8.2: any epoch may be that of the newest snapshot; a Save goes to the
// next one.
func TestEpochs(t *testing.T) {
	c := edited(t, first(t, 2), vlans(2)...)
	for _, epoch := range []uint32{0, 1, 2, 255, 256, 65535, 65536, 1<<31 - 1, 1 << 31, math.MaxUint32 - 1} {
		d := at(t, 64, epoch, c)
		s := open(t, d, 2)
		has(t, "opened", d, s, epoch, c)
		commit(t, s, cost(0, 5))
		has(t, "a Commit", d, s, epoch, edited(t, c, cost(0, 5)))
		save(t, s)
		has(t, "a Save", d, s, epoch+1, edited(t, c, cost(0, 5)))
		commit(t, s, cost(0, 6))
		has(t, "a Commit more", d, s, epoch+1, edited(t, c, cost(0, 6)))
	}
}

// P8.1, P8.2: at the greatest epoch Commits are as at any other. The epoch and
// 1 is a number of 32 bits: it goes round to 0, which is what the words say of
// the store that makes the Save.
func TestGreatestEpoch(t *testing.T) {
	c := first(t, 2)
	d := at(t, least, math.MaxUint32, c)
	s := open(t, d, 2)
	for i := range 8 {
		commit(t, s, cost(0, 1+i))
		c = edited(t, c, cost(0, 1+i))
		has(t, "the greatest epoch", d, s, math.MaxUint32, c)
	}
	want := image(d)
	copy(want[second:], encode(t, 2, 0, 0, configBytes(t, c)))
	save(t, s)
	if !slices.Equal(image(d), want) {
		t.Error("Save: the disk is another")
	}
	tells(t, "round", s, 0, c)
	commit(t, s, cost(0, 50))
	want[journalFrom] = encode(t, 1, 0, 0, editBytes(t, cost(0, 50)))[0]
	if !slices.Equal(image(d), want) {
		t.Error("Commit: the disk is another")
	}
	tells(t, "round, then a Commit", s, 0, edited(t, c, cost(0, 50)))
}

// P8.2: a store of a full journal at the greatest epoch makes the same Save.
func TestFullAtTheGreatestEpoch(t *testing.T) {
	d := at(t, least, math.MaxUint32, first(t, 2))
	s := open(t, d, 2)
	for i := range 9 {
		commit(t, s, cost(0, 1+i))
	}
	tells(t, "round", s, 0, edited(t, first(t, 2), cost(0, 9)))
}

// P8.2: many Commits, each of one sector: every eighth one fills the journal.
func TestManyCommits(t *testing.T) {
	d := newDisk(t, least)
	s := open(t, d, 2)
	c := first(t, 2)
	for i := range 3000 {
		e := cost(i%2, 1+i)
		commit(t, s, e)
		c = edited(t, c, e)
		if s.Epoch() != uint32(1+i/8) || !config.Same(s.Config(), c) {
			t.Fatalf("Commit %d: %v, epoch %d", i, s.Config(), s.Epoch())
		}
	}
	has(t, "behind many", d, s, 375, c)
}
