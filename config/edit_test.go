package config_test

import (
	"cmp"
	"math"
	"math/rand"
	"slices"
	"testing"

	"weirgate/api"
	"weirgate/config"
)

// edits asks for what Edit answers of rich.
func edits(t *testing.T, name string, want api.Config, errno api.Errno, l ...api.Edit) {
	t.Helper()
	editsOf(t, name, rich(), want, errno, l...)
}

// editsOf asks for what Edit answers of c, and that nothing handed in changes.
func editsOf(t *testing.T, name string, c, want api.Config, errno api.Errno, l ...api.Edit) {
	t.Helper()
	before := changed(c, func(*api.Config) {})
	list := slices.Clone(l)
	got, e := config.Edit(c, list...)
	if e != errno || !alike(got, want) {
		t.Errorf("%s: Edit is %v, %v, not %v, %v", name, got, e, want, errno)
	}
	if e == api.OK && !config.Good(got) {
		t.Errorf("%s: %v may not be", name, got)
	}
	if !alike(c, before) || !slices.Equal(list, l) {
		t.Errorf("%s: what was handed in changed", name)
	}
}

// makes asks that the edits make rich with that change.
func makes(t *testing.T, name string, change func(c *api.Config), l ...api.Edit) {
	t.Helper()
	edits(t, name, changed(rich(), change), api.OK, l...)
}

// fails asks that the edits of rich are refused.
func fails(t *testing.T, name string, errno api.Errno, l ...api.Edit) {
	t.Helper()
	edits(t, name, api.Config{}, errno, l...)
}

func TestNoEdits(t *testing.T) {
	makes(t, "none", func(c *api.Config) {})
	edits(t, "an empty list", rich(), api.OK, []api.Edit{}...)
	for n := 1; n <= api.MaxPorts; n++ {
		editsOf(t, "the first one", first(t, n), first(t, n), api.OK)
	}
}

// P5.2: the chapter's example.
func TestExample(t *testing.T) {
	want := first(t, 4)
	want.Vlans = append(want.Vlans, api.Vlan{Id: 10, Member: 3})
	want.Ports[0].Pvid = 10
	editsOf(t, "the example", first(t, 4), want, api.OK,
		api.Edit{Kind: api.VlanSet, Vlan: 10, Member: 3}, api.Edit{Kind: api.PortPvid, Port: 0, N: 10})
}

// P5.2: SetPrio, SetAge, SetDelay: N, at each end of its range and one beyond.
func TestEditTree(t *testing.T) {
	for _, n := range []int{0, 4096, 32768, 61440} {
		makes(t, "SetPrio", func(c *api.Config) { c.Prio = n }, api.Edit{Kind: api.SetPrio, N: n})
	}
	for _, n := range []int{-4096, -1, 1, 4095, 61439, 61441, 65536, math.MaxInt, math.MinInt, 1 << 32} {
		fails(t, "SetPrio", api.ErrConfig, api.Edit{Kind: api.SetPrio, N: n})
	}
	for _, n := range []int{6, 7, 27, 28} {
		makes(t, "SetAge", func(c *api.Config) { c.MaxAge = n }, api.Edit{Kind: api.SetAge, N: n})
	}
	for _, n := range []int{5, 29, 40, 41, 0, -6, math.MaxInt, math.MinInt, 1<<32 + 6} {
		fails(t, "SetAge", api.ErrConfig, api.Edit{Kind: api.SetAge, N: n})
	}
	for _, n := range []int{15, 16, 29, 30} {
		makes(t, "SetDelay", func(c *api.Config) { c.Delay = n }, api.Edit{Kind: api.SetDelay, N: n})
	}
	for _, n := range []int{14, 4, 3, 31, 0, -15, math.MaxInt, math.MinInt, 1<<32 + 15} {
		fails(t, "SetDelay", api.ErrConfig, api.Edit{Kind: api.SetDelay, N: n})
	}
	for _, x := range [][2]int{{6, 4}, {40, 21}, {40, 30}, {6, 30}} {
		age, delay := api.Edit{Kind: api.SetAge, N: x[0]}, api.Edit{Kind: api.SetDelay, N: x[1]}
		both := func(c *api.Config) { c.MaxAge, c.Delay = x[0], x[1] }
		makes(t, "age, then delay", both, age, delay)
		makes(t, "delay, then age", both, delay, age)
	}
}

// P5.2: edits of ports that are there and that are not.
func TestEditPorts(t *testing.T) {
	for p := range 3 {
		for n := range 2 {
			makes(t, "PortUp", func(c *api.Config) { c.Ports[p].Up = n == 1 }, api.Edit{Kind: api.PortUp, Port: p, N: n})
		}
		for _, n := range []int{-1, 2, 3, 256, 257, 1 << 32, 1<<32 + 1, math.MaxInt, math.MinInt} {
			fails(t, "PortUp", api.ErrArg, api.Edit{Kind: api.PortUp, Port: p, N: n})
		}
		for _, n := range []int{1, 2, 200000000 - 1, 200000000} {
			makes(t, "PortCost", func(c *api.Config) { c.Ports[p].Cost = uint32(n) }, api.Edit{Kind: api.PortCost, Port: p, N: n})
		}
		for _, n := range []int{0, 200000001, math.MaxInt32, math.MaxUint32 - 1, math.MaxUint32} {
			fails(t, "PortCost", api.ErrConfig, api.Edit{Kind: api.PortCost, Port: p, N: n})
		}
		for _, n := range []int{-1, 1 << 32, 1<<32 + 1, 1<<32 + 200, math.MaxInt, math.MinInt, -math.MaxUint32} {
			fails(t, "PortCost", api.ErrArg, api.Edit{Kind: api.PortCost, Port: p, N: n})
		}
		for _, n := range []int{1, 10, 4094} {
			makes(t, "PortPvid", func(c *api.Config) { c.Ports[p].Pvid = n }, api.Edit{Kind: api.PortPvid, Port: p, N: n})
		}
		for _, n := range []int{0, 2, 4093, 4095, -1, -10, 1<<32 + 1, math.MaxInt, math.MinInt} {
			fails(t, "PortPvid", api.ErrConfig, api.Edit{Kind: api.PortPvid, Port: p, N: n})
		}
	}
	for _, kind := range []int{api.PortUp, api.PortCost, api.PortPvid} {
		for _, p := range []int{-1, 3, 4, 7, 8, 256, 1 << 32, math.MaxInt, math.MinInt} {
			for _, n := range []int{1, -1, 1 << 32} {
				fails(t, "no such port", api.ErrArg, api.Edit{Kind: kind, Port: p, N: n})
			}
		}
	}
	last := api.Edit{Kind: api.PortUp, Port: 7}
	want := first(t, 8)
	want.Ports[7].Up = false
	editsOf(t, "the last of all ports", first(t, 8), want, api.OK, last)
	editsOf(t, "one beyond 7 ports", first(t, 7), api.Config{}, api.ErrArg, last)
}

// P5.2: VlanSet of a new one and of one that was there.
func TestVlanSet(t *testing.T) {
	for _, x := range []struct{ id, at int }{{2, 1}, {9, 1}, {11, 2}, {4093, 2}} {
		makes(t, "a new one", func(c *api.Config) {
			c.Vlans = slices.Insert(c.Vlans, x.at, api.Vlan{Id: x.id, Member: 5, Tagged: 1})
		}, api.Edit{Kind: api.VlanSet, Vlan: x.id, Member: 5, Tagged: 1})
	}
	for at, id := range []int{1, 10, 4094} {
		makes(t, "one that was there", func(c *api.Config) {
			c.Vlans[at] = api.Vlan{Id: id, Member: 7, Tagged: 2}
		}, api.Edit{Kind: api.VlanSet, Vlan: id, Member: 7, Tagged: 2})
	}
	for _, id := range []int{0, -1, 4095, math.MaxInt, math.MinInt, 1<<32 + 1} {
		set := api.Edit{Kind: api.VlanSet, Vlan: id}
		fails(t, "an Id that may not be", api.ErrConfig, set)
		makes(t, "and it goes again", func(c *api.Config) {}, set, api.Edit{Kind: api.VlanDel, Vlan: id})
	}
	fails(t, "a port that is not there", api.ErrConfig, api.Edit{Kind: api.VlanSet, Vlan: 2, Member: 8})
	fails(t, "tagged at no member", api.ErrConfig, api.Edit{Kind: api.VlanSet, Vlan: 2, Member: 3, Tagged: 4})
	fails(t, "a Static's port is no member any more", api.ErrConfig, api.Edit{Kind: api.VlanSet, Vlan: 10, Member: 1})
	makes(t, "two times", func(c *api.Config) {
		c.Vlans[2] = api.Vlan{Id: 4094, Member: 6, Tagged: 2}
	}, api.Edit{Kind: api.VlanSet, Vlan: 4094, Member: 255, Tagged: 255}, api.Edit{Kind: api.VlanSet, Vlan: 4094, Member: 6, Tagged: 2})

	c, want := first(t, 2), first(t, 2)
	want.Vlans = []api.Vlan{{Id: 1, Member: 3}, {Id: 2, Member: 2}, {Id: 5}, {Id: 4094, Member: 1}}
	editsOf(t, "not in order", c, want, api.OK, api.Edit{Kind: api.VlanSet, Vlan: 4094, Member: 1},
		api.Edit{Kind: api.VlanSet, Vlan: 2, Member: 2}, api.Edit{Kind: api.VlanSet, Vlan: 5})
}

// P5.2: VlanDel of one that is there, and of none.
func TestVlanDel(t *testing.T) {
	move := api.Edit{Kind: api.PortPvid, Port: 2, N: 1}
	makes(t, "the last one", func(c *api.Config) {
		c.Ports[2].Pvid, c.Vlans = 1, c.Vlans[:2]
	}, api.Edit{Kind: api.VlanDel, Vlan: 4094}, move)
	makes(t, "one between", func(c *api.Config) {
		c.Ports[1].Pvid, c.Vlans, c.Statics = 1, slices.Delete(c.Vlans, 1, 2), c.Statics[:2]
	}, api.Edit{Kind: api.VlanDel, Vlan: 10}, api.Edit{Kind: api.PortPvid, Port: 1, N: 1}, api.Edit{Kind: api.StaticDel, Mac: 1, Vlan: 10})
	fails(t, "a Pvid is of it", api.ErrConfig, api.Edit{Kind: api.VlanDel, Vlan: 4094})
	fails(t, "a Static is in it", api.ErrConfig, api.Edit{Kind: api.VlanDel, Vlan: 10}, api.Edit{Kind: api.PortPvid, Port: 1, N: 1})
	for _, id := range []int{0, 2, 9, 11, 4093, 4095, -1, -10, 1<<32 + 1, math.MaxInt, math.MinInt} {
		fails(t, "none", api.ErrNone, api.Edit{Kind: api.VlanDel, Vlan: id})
	}
	fails(t, "two times", api.ErrNone, api.Edit{Kind: api.VlanDel, Vlan: 4094}, api.Edit{Kind: api.VlanDel, Vlan: 4094})
	editsOf(t, "the only one", first(t, 1), api.Config{}, api.ErrConfig, api.Edit{Kind: api.VlanDel, Vlan: 1})

	want := first(t, 1)
	want.Ports[0].Pvid, want.Vlans = 7, []api.Vlan{{Id: 7}}
	editsOf(t, "another one in its stead", first(t, 1), want, api.OK, api.Edit{Kind: api.VlanDel, Vlan: 1},
		api.Edit{Kind: api.PortPvid, N: 7}, api.Edit{Kind: api.VlanSet, Vlan: 7})
}

// P5.2: StaticSet of a new one and of one that was there.
func TestStaticSet(t *testing.T) {
	for _, x := range []struct {
		s  api.Static
		at int
	}{
		{api.Static{Mac: 1, Vlan: 1, Port: 1}, 0}, {api.Static{Mac: 4, Vlan: 1, Port: 1}, 0}, {api.Static{Mac: 6, Vlan: 1}, 1},
		{api.Static{Mac: 1<<48 - 2 - 1<<40, Vlan: 1}, 1}, {api.Static{Mac: 2, Vlan: 10, Port: 1}, 3}, {api.Static{Mac: 5, Vlan: 10}, 3},
	} {
		makes(t, "a new one", func(c *api.Config) { c.Statics = slices.Insert(c.Statics, x.at, x.s) },
			api.Edit{Kind: api.StaticSet, Mac: x.s.Mac, Vlan: x.s.Vlan, Port: x.s.Port})
	}
	for at, s := range rich().Statics {
		for port := range 2 {
			makes(t, "one that was there", func(c *api.Config) { c.Statics[at].Port = port },
				api.Edit{Kind: api.StaticSet, Mac: s.Mac, Vlan: s.Vlan, Port: port})
		}
	}
	for _, x := range []api.Edit{
		{Mac: 0, Vlan: 1}, {Mac: 1 << 40, Vlan: 1}, {Mac: 1<<48 - 1, Vlan: 1}, {Mac: 1 << 48, Vlan: 1}, {Mac: math.MaxUint64, Vlan: 1},
		{Mac: 9, Vlan: 2}, {Mac: 9, Vlan: 0}, {Mac: 9, Vlan: -1}, {Mac: 9, Vlan: 1<<32 + 1}, {Mac: 9, Vlan: math.MinInt},
		{Mac: 9, Vlan: 1, Port: 3}, {Mac: 9, Vlan: 1, Port: -1}, {Mac: 9, Vlan: 1, Port: 64}, {Mac: 9, Vlan: 1, Port: math.MinInt},
		{Mac: 9, Vlan: 1, Port: math.MaxInt}, {Mac: 9, Vlan: 10, Port: 2}, {Mac: 9, Vlan: 4094}, {Mac: 5, Vlan: 1, Port: 3},
	} {
		x.Kind = api.StaticSet
		fails(t, "one that may not be", api.ErrConfig, x)
	}
	for _, x := range []api.Edit{{Mac: 0, Vlan: -5, Port: -1}, {Mac: math.MaxUint64, Vlan: math.MaxInt, Port: math.MaxInt}, {Mac: 9, Vlan: 1, Port: 3}} {
		set, del := x, x
		set.Kind, del.Kind = api.StaticSet, api.StaticDel
		makes(t, "and it goes again", func(c *api.Config) {}, set, del)
	}
	makes(t, "two times", func(c *api.Config) {
		c.Statics[0].Port = 1
	}, api.Edit{Kind: api.StaticSet, Mac: 5, Vlan: 1, Port: 99}, api.Edit{Kind: api.StaticSet, Mac: 5, Vlan: 1, Port: 1})
}

// P5.2: StaticDel of one that is there, and of none.
func TestStaticDel(t *testing.T) {
	for at, s := range rich().Statics {
		makes(t, "one", func(c *api.Config) { c.Statics = slices.Delete(c.Statics, at, at+1) },
			api.Edit{Kind: api.StaticDel, Mac: s.Mac, Vlan: s.Vlan})
	}
	var l []api.Edit
	for _, s := range rich().Statics {
		l = append(l, api.Edit{Kind: api.StaticDel, Mac: s.Mac, Vlan: s.Vlan})
	}
	makes(t, "all", func(c *api.Config) { c.Statics = nil }, l...)
	for _, x := range []api.Edit{
		{Mac: 5, Vlan: 10}, {Mac: 1, Vlan: 1}, {Mac: 5, Vlan: 4094}, {Mac: 5, Vlan: 2}, {Mac: 4, Vlan: 1}, {Mac: 6, Vlan: 1},
		{}, {Mac: 5}, {Vlan: 1}, {Mac: math.MaxUint64, Vlan: math.MinInt}, {Mac: 5 + 1<<48, Vlan: 1},
	} {
		x.Kind = api.StaticDel
		fails(t, "none", api.ErrNone, x)
	}
	fails(t, "two times", api.ErrNone, l[0], l[0])
}

// P5.2: other kinds have no form.
func TestOtherKinds(t *testing.T) {
	for _, kind := range []int{0, -1, 11, 12, 255, 256 + api.SetPrio, 1<<32 + api.SetPrio, -api.SetPrio, math.MaxInt, math.MinInt} {
		fails(t, "alone", api.ErrForm, api.Edit{Kind: kind, N: 4096, Vlan: 1, Member: 7, Mac: 5})
		fails(t, "behind a good one", api.ErrForm, api.Edit{Kind: api.SetPrio, N: 4096}, api.Edit{Kind: kind})
	}
}

// P5.2: what a kind does not name is not looked at, whatever it is.
func TestWhatIsNotNamed(t *testing.T) {
	far := api.Edit{Port: math.MinInt, N: math.MinInt, Vlan: math.MaxInt, Member: 255, Tagged: 254, Mac: math.MaxUint64}
	for _, x := range []struct {
		kind int
		name func(e *api.Edit)
		want func(c *api.Config)
	}{
		{api.SetPrio, func(e *api.Edit) { e.N = 8192 }, func(c *api.Config) { c.Prio = 8192 }},
		{api.SetAge, func(e *api.Edit) { e.N = 6 }, func(c *api.Config) { c.MaxAge = 6 }},
		{api.SetDelay, func(e *api.Edit) { e.N = 30 }, func(c *api.Config) { c.Delay = 30 }},
		{api.PortUp, func(e *api.Edit) { e.Port, e.N = 0, 0 }, func(c *api.Config) { c.Ports[0].Up = false }},
		{api.PortCost, func(e *api.Edit) { e.Port, e.N = 1, 8 }, func(c *api.Config) { c.Ports[1].Cost = 8 }},
		{api.PortPvid, func(e *api.Edit) { e.Port, e.N = 2, 10 }, func(c *api.Config) { c.Ports[2].Pvid = 10 }},
		{api.VlanSet, func(e *api.Edit) { e.Vlan, e.Member, e.Tagged = 4094, 7, 6 },
			func(c *api.Config) { c.Vlans[2] = api.Vlan{Id: 4094, Member: 7, Tagged: 6} }},
		{api.StaticSet, func(e *api.Edit) { e.Mac, e.Vlan, e.Port = 5, 1, 1 }, func(c *api.Config) { c.Statics[0].Port = 1 }},
		{api.StaticDel, func(e *api.Edit) { e.Mac, e.Vlan = 1, 10 }, func(c *api.Config) { c.Statics = c.Statics[:2] }},
	} {
		e := far
		e.Kind = x.kind
		x.name(&e)
		makes(t, "far numbers elsewhere", x.want, e)
	}
	del := far
	del.Kind, del.Vlan = api.VlanDel, 4094
	makes(t, "VlanDel", func(c *api.Config) {
		c.Vlans, c.Ports[2].Pvid = c.Vlans[:2], 1
	}, del, api.Edit{Kind: api.PortPvid, Port: 2, N: 1})
}

// P5.2: MaxEdits of them, and one more.
func TestHowManyEdits(t *testing.T) {
	for _, n := range []int{1, api.MaxEdits - 1, api.MaxEdits, api.MaxEdits + 1, 2 * api.MaxEdits, 256, 257, 1 << 20} {
		l := make([]api.Edit, n)
		for i := range l {
			l[i] = api.Edit{Kind: api.PortCost, Port: 1, N: i + 1}
		}
		if n > api.MaxEdits {
			fails(t, "too many", api.ErrMany, l...)
			fails(t, "too many of no kind", api.ErrMany, make([]api.Edit, n)...)
		} else {
			makes(t, "as many as may be", func(c *api.Config) { c.Ports[1].Cost = uint32(n) }, l...)
		}
	}
}

// full is a configuration with MaxVlans VLANs and MaxStatic Statics.
func full(t *testing.T) api.Config {
	c := first(t, 2)
	for i := 1; i < api.MaxVlans; i++ {
		c.Vlans = append(c.Vlans, api.Vlan{Id: i + 1, Member: 2})
	}
	for i := range api.MaxStatic {
		c.Statics = append(c.Statics, api.Static{Mac: uint64(i + 1), Vlan: 1})
	}
	return c
}

// P5.2: MaxVlans and MaxStatic, and one more; only behind all edits does it
// count how many there are.
func TestEditFull(t *testing.T) {
	c := full(t)
	editsOf(t, "as it is", c, c, api.OK)
	vlan := api.Edit{Kind: api.VlanSet, Vlan: 99}
	static := api.Edit{Kind: api.StaticSet, Mac: 99, Vlan: 1}
	editsOf(t, "one VLAN more", c, api.Config{}, api.ErrConfig, vlan)
	editsOf(t, "one Static more", c, api.Config{}, api.ErrConfig, static)
	want := changed(c, func(c *api.Config) {
		c.Vlans = append(slices.Delete(c.Vlans, 1, 2), api.Vlan{Id: 99})
		c.Statics = append(slices.Delete(c.Statics, 0, 1), api.Static{Mac: 99, Vlan: 1})
	})
	lessVlan, lessStatic := api.Edit{Kind: api.VlanDel, Vlan: 2}, api.Edit{Kind: api.StaticDel, Mac: 1, Vlan: 1}
	editsOf(t, "more, then less", c, want, api.OK, vlan, static, lessVlan, lessStatic)
	editsOf(t, "less, then more", c, want, api.OK, lessStatic, lessVlan, static, vlan)

	var l []api.Edit
	for id := range api.MaxEdits {
		l = append(l, api.Edit{Kind: api.VlanSet, Vlan: 100 + id})
	}
	editsOf(t, "far too many VLANs", c, api.Config{}, api.ErrConfig, l...)
}

// P5.2: which error is the first.
func TestFirstErrorCounts(t *testing.T) {
	bad := rich()
	bad.Prio = 1
	mend := api.Edit{Kind: api.SetPrio, N: 4096}
	noArg := api.Edit{Kind: api.PortUp, Port: 3}
	none := api.Edit{Kind: api.VlanDel, Vlan: 2}
	noForm := api.Edit{Kind: 11}
	notGood := api.Edit{Kind: api.SetPrio, N: 1}
	many := slices.Repeat([]api.Edit{noForm}, api.MaxEdits+1)

	editsOf(t, "what may not be, no edits", bad, api.Config{}, api.ErrConfig)
	editsOf(t, "what may not be, mended", bad, api.Config{}, api.ErrConfig, mend)
	editsOf(t, "what may not be, too many", bad, api.Config{}, api.ErrConfig, many...)
	editsOf(t, "what may not be, and each error", bad, api.Config{}, api.ErrConfig, noForm, none, noArg)
	editsOf(t, "nothing at all", api.Config{}, api.Config{}, api.ErrConfig, many...)
	fails(t, "too many", api.ErrMany, many...)

	for _, x := range []struct {
		l    []api.Edit
		want api.Errno
	}{
		{[]api.Edit{noArg, none, noForm}, api.ErrArg}, {[]api.Edit{noForm, noArg, none}, api.ErrForm}, {[]api.Edit{none, noForm, noArg}, api.ErrNone},
		{[]api.Edit{notGood, noArg}, api.ErrArg}, {[]api.Edit{notGood, none}, api.ErrNone}, {[]api.Edit{notGood, noForm}, api.ErrForm},
		{[]api.Edit{mend, mend, noArg, noForm}, api.ErrArg}, {[]api.Edit{notGood}, api.ErrConfig}, {[]api.Edit{notGood, mend, none}, api.ErrNone},
		{[]api.Edit{{Kind: api.PortCost, Port: 3, N: 1 << 32}, noForm}, api.ErrArg},
	} {
		fails(t, "the first one", x.want, x.l...)
	}
	makes(t, "mended on the way", func(c *api.Config) {}, notGood, mend)
}

// P5.2: what Edit makes is in memory of its own, whatever was edited.
func TestEditMemory(t *testing.T) {
	for name, l := range map[string][]api.Edit{
		"none":           nil,
		"numbers":        {{Kind: api.SetPrio, N: 0}, {Kind: api.SetAge, N: 6}, {Kind: api.SetDelay, N: 16}},
		"ports":          {{Kind: api.PortUp, Port: 1, N: 1}, {Kind: api.PortCost, Port: 2, N: 9}, {Kind: api.PortPvid, Port: 0, N: 10}},
		"a new VLAN":     {{Kind: api.VlanSet, Vlan: 5, Member: 1}},
		"an old VLAN":    {{Kind: api.VlanSet, Vlan: 4094, Member: 1}},
		"a VLAN less":    {{Kind: api.PortPvid, Port: 2, N: 1}, {Kind: api.VlanDel, Vlan: 4094}},
		"a new Static":   {{Kind: api.StaticSet, Mac: 2, Vlan: 1}},
		"an old Static":  {{Kind: api.StaticSet, Mac: 5, Vlan: 1}},
		"a Static less":  {{Kind: api.StaticDel, Mac: 5, Vlan: 1}},
		"all Statics":    {{Kind: api.StaticDel, Mac: 5, Vlan: 1}, {Kind: api.StaticDel, Mac: 1, Vlan: 10}, {Kind: api.StaticDel, Mac: 1<<48 - 1 - 1<<40, Vlan: 1}},
		"new, then gone": {{Kind: api.VlanSet, Vlan: 5}, {Kind: api.VlanDel, Vlan: 5}, {Kind: api.StaticSet, Mac: 6, Vlan: 1}, {Kind: api.StaticDel, Mac: 6, Vlan: 1}},
	} {
		ownMemory(t, name, rich(), func(c api.Config) api.Config {
			told, e := config.Edit(c, l...)
			if e != api.OK {
				t.Errorf("%s: Edit is %v", name, e)
			}
			return told
		})
	}
	inner, whole := roomy(rich())
	_, before := roomy(rich())
	config.Edit(inner, api.Edit{Kind: api.VlanSet, Vlan: 5}, api.Edit{Kind: api.StaticSet, Mac: 6, Vlan: 1}, api.Edit{Kind: 11})
	if !alike(whole, before) {
		t.Errorf("a refused one: what was handed in became %v", whole)
	}
}

// model is a configuration by another way: what there is stands under what it
// is asked by, in no order.
type model struct {
	numbers [3]int
	ports   []api.PortCfg
	vlans   map[int]api.Vlan
	statics map[where]int
}

type where struct {
	vlan int
	mac  uint64
}

func modelOf(c api.Config) *model {
	m := &model{numbers: [3]int{c.Prio, c.MaxAge, c.Delay}, ports: slices.Clone(c.Ports), vlans: map[int]api.Vlan{}, statics: map[where]int{}}
	for _, v := range c.Vlans {
		m.vlans[v.Id] = v
	}
	for _, s := range c.Statics {
		m.statics[where{s.Vlan, s.Mac}] = s.Port
	}
	return m
}

func (m *model) config() api.Config {
	c := api.Config{Prio: m.numbers[0], MaxAge: m.numbers[1], Delay: m.numbers[2], Ports: slices.Clone(m.ports)}
	for _, v := range m.vlans {
		c.Vlans = append(c.Vlans, v)
	}
	for w, port := range m.statics {
		c.Statics = append(c.Statics, api.Static{Mac: w.mac, Vlan: w.vlan, Port: port})
	}
	slices.SortFunc(c.Vlans, func(a, b api.Vlan) int { return cmp.Compare(a.Id, b.Id) })
	slices.SortFunc(c.Statics, func(a, b api.Static) int {
		if a.Vlan != b.Vlan {
			return cmp.Compare(a.Vlan, b.Vlan)
		}
		return cmp.Compare(a.Mac, b.Mac)
	})
	return c
}

func (m *model) edit(e api.Edit) api.Errno {
	w := where{e.Vlan, e.Mac}
	if e.Kind >= api.PortUp && e.Kind <= api.PortPvid {
		if e.Port < 0 || e.Port >= len(m.ports) || e.Kind == api.PortUp && e.N != 0 && e.N != 1 || e.Kind == api.PortCost && uint64(e.N) >= 1<<32 {
			return api.ErrArg
		}
	}
	switch e.Kind {
	case api.SetPrio, api.SetAge, api.SetDelay:
		m.numbers[e.Kind-api.SetPrio] = e.N
	case api.PortUp:
		m.ports[e.Port].Up = e.N != 0
	case api.PortCost:
		m.ports[e.Port].Cost = uint32(e.N)
	case api.PortPvid:
		m.ports[e.Port].Pvid = e.N
	case api.VlanSet:
		m.vlans[e.Vlan] = api.Vlan{Id: e.Vlan, Member: e.Member, Tagged: e.Tagged}
	case api.VlanDel:
		if _, ok := m.vlans[e.Vlan]; !ok {
			return api.ErrNone
		}
		delete(m.vlans, e.Vlan)
	case api.StaticSet:
		m.statics[w] = e.Port
	case api.StaticDel:
		if _, ok := m.statics[w]; !ok {
			return api.ErrNone
		}
		delete(m.statics, w)
	default:
		return api.ErrForm
	}
	return api.OK
}

// anyEdit is an edit that often fits a small configuration.
func anyEdit(r *rand.Rand) api.Edit {
	e := api.Edit{Kind: 1 + r.Intn(10), Port: r.Intn(3), Vlan: 1 + r.Intn(4), Member: uint8(r.Intn(8)), Mac: uint64(1 + r.Intn(5))}
	e.Tagged = e.Member & uint8(r.Intn(8))
	switch e.Kind {
	case api.SetPrio:
		e.N = 4096 * r.Intn(16)
	case api.SetAge:
		e.N = 6 + r.Intn(25)
	case api.SetDelay:
		e.N = 10 + r.Intn(21)
	case api.PortUp:
		e.N = r.Intn(2)
	default:
		e.N = 1 + r.Intn(4)
	}
	switch r.Intn(60) {
	case 0:
		e.Kind = r.Intn(14) - 1
	case 1:
		e.Port = r.Intn(6) - 2
	case 2:
		e.N = r.Intn(9)*4096 - 4097
	case 3:
		e.Member, e.Tagged = uint8(r.Intn(256)), uint8(r.Intn(256))
	}
	return e
}

// P5.2, P5.3: long plays of edits, beside the model; what is told may be.
func TestPlays(t *testing.T) {
	answers := map[api.Errno]int{}
	for seed := range int64(100) {
		r := rand.New(rand.NewSource(seed))
		c := first(t, 3)
		for range 100 {
			l := make([]api.Edit, r.Intn(5))
			m, errno := modelOf(c), api.OK
			for i := range l {
				l[i] = anyEdit(r)
				if errno == api.OK {
					errno = m.edit(l[i])
				}
			}
			if errno == api.OK && !config.Good(m.config()) {
				errno = api.ErrConfig
			}
			answers[errno]++
			if errno != api.OK {
				editsOf(t, "refused", c, api.Config{}, errno, l...)
				continue
			}
			editsOf(t, "made", c, m.config(), api.OK, l...)
			c = m.config()
		}
		if t.Failed() {
			t.Fatalf("seed %d", seed)
		}
	}
	for _, errno := range []api.Errno{api.OK, api.ErrArg, api.ErrForm, api.ErrNone, api.ErrConfig} {
		if answers[errno] < 20 {
			t.Errorf("the plays met %v only %d times", errno, answers[errno])
		}
	}
}

// undo is the edit that takes e back, where c is what e is applied to.
func undo(c api.Config, e api.Edit) api.Edit {
	m := modelOf(c)
	port, there := m.statics[where{e.Vlan, e.Mac}]
	v, known := m.vlans[e.Vlan]
	switch e.Kind {
	case api.SetPrio, api.SetAge, api.SetDelay:
		e.N = m.numbers[e.Kind-api.SetPrio]
	case api.PortUp:
		e.N = 0
		if m.ports[e.Port].Up {
			e.N = 1
		}
	case api.PortCost:
		e.N = int(m.ports[e.Port].Cost)
	case api.PortPvid:
		e.N = m.ports[e.Port].Pvid
	case api.VlanSet, api.VlanDel:
		e = api.Edit{Kind: api.VlanDel, Vlan: e.Vlan}
		if known {
			e = api.Edit{Kind: api.VlanSet, Vlan: v.Id, Member: v.Member, Tagged: v.Tagged}
		}
	case api.StaticSet, api.StaticDel:
		e.Kind = api.StaticDel
		if there {
			e.Kind, e.Port = api.StaticSet, port
		}
	}
	return e
}

// P5.3: edits that undo each other leave it as it was, in one Edit, whatever
// it is on the way, and in two, where what is between may be.
func TestUndo(t *testing.T) {
	var split int
	for seed := range int64(300) {
		r := rand.New(rand.NewSource(seed))
		c := rich()
		m := modelOf(c)
		var l, back []api.Edit
		for len(l) < 1+r.Intn(api.MaxEdits/2) {
			e, way := anyEdit(r), m.config()
			if m.edit(e) == api.OK {
				l, back = append(l, e), append(back, undo(way, e))
			} else {
				m = modelOf(way)
			}
		}
		slices.Reverse(back)
		editsOf(t, "there and back", c, c, api.OK, slices.Concat(l, back)...)
		if between, errno := config.Edit(c, l...); errno == api.OK {
			split++
			editsOf(t, "back", between, c, api.OK, back...)
		}
		if t.Failed() {
			t.Fatalf("seed %d: %v, %v", seed, l, back)
		}
	}
	if split < 20 {
		t.Errorf("only %d had something between that may be", split)
	}
}
