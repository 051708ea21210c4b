package store_test

import (
	"fmt"
	"slices"
	"testing"

	"weirgate/api"
	"weirgate/config"
	"weirgate/sector"
)

// step is one step upon a disk: a flush, or a write of a sector.
type step struct {
	flush bool
	at    int
	s     [api.Sector]byte
}

// lay is the steps that lay an entry or a snapshot: all its sectors but the
// first, a flush, the first, a flush.
func lay(at int, s [][api.Sector]byte) []step {
	var l []step
	for i := 1; i < len(s); i++ {
		l = append(l, step{at: at + i, s: s[i]})
	}
	return append(l, step{flush: true}, step{at: at, s: s[0]}, step{flush: true})
}

// play is a disk up to a step, as if the power went off then; it tells how many
// writes are pending.
func play(d *sector.Disk, steps []step) int {
	for _, x := range steps {
		if x.flush {
			d.Flush()
		} else {
			d.Write(x.at, x.s)
		}
	}
	return d.Pending()
}

// life is what a store has been through: a list of Commits, of which one of nil
// is a Save.
type life struct {
	name  string
	size  int
	ports int
	acts  [][]api.Edit
}

// stands is a life by the chapter's words: the configuration, the epoch, and how
// many entries of how many sectors the journal has.
type stands struct {
	c       api.Config
	epoch   uint32
	entries int
	length  int
}

// live is a disk behind a life, and how it stands then. Lives are so made that
// no Commit of theirs finds a full journal.
func live(t *testing.T, x life) (*sector.Disk, stands) {
	t.Helper()
	d := newDisk(t, x.size)
	s := open(t, d, x.ports)
	w := stands{c: first(t, x.ports), epoch: 1}
	for _, l := range x.acts {
		if l == nil {
			save(t, s)
			w.epoch, w.entries, w.length = w.epoch+1, 0, 0
			continue
		}
		commit(t, s, l...)
		w.c = edited(t, w.c, l...)
		w.entries++
		w.length += len(encode(t, 1, 0, 0, editBytes(t, l...)))
	}
	tells(t, x.name, s, w.epoch, w.c)
	return d, w
}

// saveSteps is what a Save does.
func (w stands) saveSteps(t *testing.T) []step {
	t.Helper()
	place := []int{0, second}[w.epoch%2]
	return lay(place, encode(t, 2, w.epoch+1, 0, configBytes(t, w.c)))
}

// commitSteps is what a Commit does; the Save's steps, if there is one, count
// apart.
func (w stands) commitSteps(t *testing.T, size int, edits []api.Edit) (saves, appends []step) {
	t.Helper()
	b := editBytes(t, edits...)
	s := encode(t, 1, w.epoch, uint32(w.entries), b)
	room := size - journalFrom
	if w.length+len(s) <= room {
		return nil, lay(journalFrom+w.length, s)
	}
	if len(s) > room {
		return w.saveSteps(t), nil
	}
	return w.saveSteps(t), lay(journalFrom, encode(t, 1, w.epoch+1, 0, b))
}

// kept is which of some pending writes survive: those of the bits of n.
func kept(n, pending int) []bool {
	l := make([]bool, pending)
	for i := range l {
		l[i] = n>>i&1 == 1
	}
	return l
}

// choices is which pending writes may be kept, as bits: all choices, or, of
// many writes, each alone, all but each, those ahead of each, those behind.
func choices(pending int) []int {
	var l []int
	if pending <= 4 {
		for n := range 1 << pending {
			l = append(l, n)
		}
		return l
	}
	for i := range pending + 1 {
		l = append(l, 1<<i, ^(1 << i), 1<<i-1, ^(1<<i - 1))
	}
	return l
}

// lasts is whether the first sector that steps lay in the end outlives a crash
// behind n of them.
func lasts(steps []step, n int, keep []bool) bool {
	return len(steps) > 0 && (n >= len(steps) || n == len(steps)-1 && keep[len(keep)-1])
}

// lives are such that the journal's place holds elder entries of all lengths,
// with room for many entries, for one, and for none.
func lives() []life {
	rich := vlans(12)
	var full [][]api.Edit
	for i := range 8 {
		full = append(full, []api.Edit{cost(0, 1+i)})
	}
	return []life{
		{"new", least, 2, nil},
		{"an entry", least, 2, full[:1]},
		{"two entries, long and short", 64, 2, [][]api.Edit{costs(6, 3), {cost(1, 4)}}},
		{"full", least, 2, full},
		{"full, rich", least, 2, [][]api.Edit{rich, costs(13, 9)}},
		{"full, rich, the other place", least, 2, [][]api.Edit{rich, {cost(0, 5)}, nil, costs(13, 7), costs(13, 8)}},
		{"a place left", least, 2, append([][]api.Edit{rich}, full[:3]...)},
		{"behind a Save", least, 2, [][]api.Edit{{cost(0, 5)}, nil}},
		{"over entries of one sector", least, 2, append(slices.Clone(full), nil)},
		{"over entries of four sectors", least, 2, [][]api.Edit{rich, costs(13, 9), nil}},
		{"over an entry of all sectors", least, 2, [][]api.Edit{costs(28, 9), nil, {cost(0, 8)}}},
		{"behind two Saves", least, 2, [][]api.Edit{rich, nil, costs(13, 9), nil, {cost(1, 8)}}},
	}
}

// cutEverywhere calls f for a disk behind each step of some, from none to all,
// and behind a crash then that keeps any of the pending writes.
func cutEverywhere(t *testing.T, x life, steps []step, f func(where string, d *sector.Disk, n int, keep []bool)) {
	t.Helper()
	for n := range len(steps) + 1 {
		d, _ := live(t, x)
		pending := play(d, steps[:n])
		for _, bits := range choices(pending) {
			d, _ := live(t, x)
			play(d, steps[:n])
			keep := kept(bits, pending)
			d.Crash(keep...)
			f(fmt.Sprintf("%s, %d of %d steps, kept %v", x.name, n, len(steps), keep), d, n, keep)
		}
	}
}

// goesOn asks what a store on a disk tells, and goes on with it through more
// Commits than its journal has room for.
func goesOn(t *testing.T, where string, d *sector.Disk, epoch uint32, c api.Config) {
	t.Helper()
	s := open(t, d, len(c.Ports))
	tells(t, where, s, epoch, c)
	for i := range 10 {
		l := costs(1+i%4, 100+i)
		commit(t, s, l...)
		c = edited(t, c, l...)
		if i == 1 {
			save(t, s)
		}
		d.Crash()
		tells(t, where+", then more", open(t, d, len(c.Ports)), s.Epoch(), c)
	}
	tells(t, where+", then more", s, s.Epoch(), c)
	if t.Failed() {
		t.FailNow()
	}
}

// P8.3: a Commit that is cut behind each of its writes and flushes, with any of
// the pending writes kept, those of its Save too: all that was committed is
// there, and its own edits as a whole, or not at all.
func TestCutCommit(t *testing.T) {
	for _, x := range lives() {
		for _, l := range [][]api.Edit{{cost(1, 77)}, {}, {cost(0, 77), cost(1, 78), {Kind: api.SetPrio, N: 0}}, costs(13, 70), costs(32, 70)} {
			_, was := live(t, x)
			saves, appends := was.commitSteps(t, x.size, l)
			wholeCommit(t, x, l, slices.Concat(saves, appends))
			cutEverywhere(t, x, slices.Concat(saves, appends), func(where string, d *sector.Disk, n int, keep []bool) {
				epoch, c := was.epoch, was.c
				if lasts(saves, n, keep) {
					epoch++
				}
				if lasts(appends, n-len(saves), keep) {
					c = edited(t, c, l...)
				}
				goesOn(t, fmt.Sprintf("Commit of %d edits, %s", len(l), where), d, epoch, c)
			})
		}
	}
}

// wholeCommit asks that a Commit does what its steps do.
func wholeCommit(t *testing.T, x life, l []api.Edit, steps []step) {
	t.Helper()
	d, was := live(t, x)
	want, _ := live(t, x)
	if play(want, steps) != 0 {
		t.Fatalf("%s: the steps leave writes pending", x.name)
	}
	s := open(t, d, x.ports)
	e := s.Commit(l...)
	if !slices.Equal(image(d), image(want)) || d.Pending() != 0 {
		t.Fatalf("%s: Commit of %d edits does not do its steps", x.name, len(l))
	}
	after, errno := was.c, api.ErrFull
	if len(steps) > 0 && steps[len(steps)-2].at >= journalFrom {
		after, errno = edited(t, was.c, l...), api.OK
	}
	if e != errno || !config.Same(s.Config(), after) {
		t.Fatalf("%s: Commit of %d edits is %v, not %v", x.name, len(l), e, errno)
	}
}

// P8.3: a Save that is cut behind each of its writes and flushes, with any of
// the pending writes kept, loses nothing, and no entry counts twice.
func TestCutSave(t *testing.T) {
	for _, x := range lives() {
		_, was := live(t, x)
		steps := was.saveSteps(t)
		d, _ := live(t, x)
		save(t, open(t, d, x.ports))
		want, _ := live(t, x)
		play(want, steps)
		if !slices.Equal(image(d), image(want)) {
			t.Fatalf("%s: Save does not do its steps", x.name)
		}
		cutEverywhere(t, x, steps, func(where string, d *sector.Disk, n int, keep []bool) {
			epoch := was.epoch
			if lasts(steps, n, keep) {
				epoch++
			}
			goesOn(t, "Save, "+where, d, epoch, was.c)
		})
	}
}

// P8.3: entries of which a later one undoes what an elder one did: a Save that
// is cut lets all of them count, or none.
func TestCutSaveOfUndoneEdits(t *testing.T) {
	set := []api.Edit{{Kind: api.VlanSet, Vlan: 10, Member: 3}}
	del := []api.Edit{{Kind: api.VlanDel, Vlan: 10}}
	for _, acts := range [][][]api.Edit{{set, del}, {set, nil, del}, {set, nil, del, set}} {
		x := life{"undone", least, 2, acts}
		_, was := live(t, x)
		steps := was.saveSteps(t)
		cutEverywhere(t, x, steps, func(where string, d *sector.Disk, n int, keep []bool) {
			epoch := was.epoch
			if lasts(steps, n, keep) {
				epoch++
			}
			goesOn(t, where, d, epoch, was.c)
		})
	}
}

// P8.3: an Open of a new disk that is cut: the next one finds, or makes, the
// same store.
func TestCutOpen(t *testing.T) {
	for ports := 1; ports <= api.MaxPorts; ports++ {
		c := first(t, ports)
		steps := lay(0, encode(t, 2, 1, 0, configBytes(t, c)))
		for n := range len(steps) + 1 {
			d := newDisk(t, least)
			pending := play(d, steps[:n])
			for _, bits := range choices(pending) {
				d := newDisk(t, least)
				play(d, steps[:n])
				keep := kept(bits, pending)
				d.Crash(keep...)
				goesOn(t, fmt.Sprintf("Open of %d ports, %d steps, kept %v", ports, n, keep), d, 1, c)
			}
		}
	}
}

// P8.3: crash upon crash, each in a Commit or a Save, loses nothing.
func TestManyCuts(t *testing.T) {
	d := newDisk(t, least+3)
	open(t, d, 2)
	w := stands{c: first(t, 2), epoch: 1}
	done := 0
	for i := range 3000 {
		l := costs(1+i%6, 1+i)
		saves, appends := w.commitSteps(t, least+3, l)
		if i%11 == 5 {
			saves, appends = w.saveSteps(t), nil
		}
		all := slices.Concat(saves, appends)
		n := i * 7 % (len(all) + 1)
		keep := kept(i/3, play(d, all[:n]))
		d.Crash(keep...)
		if lasts(saves, n, keep) {
			w.epoch, w.entries, w.length = w.epoch+1, 0, 0
		}
		if lasts(appends, n-len(saves), keep) {
			w.c = edited(t, w.c, l...)
			w.entries++
			w.length += len(appends) - 2
			done++
		}
		tells(t, fmt.Sprintf("crash %d", i), open(t, d, 2), w.epoch, w.c)
		if t.Failed() {
			t.FailNow()
		}
	}
	if done < 500 {
		t.Errorf("%d Commits only", done)
	}
}
