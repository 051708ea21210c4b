package config_test

import (
	"math"
	"slices"
	"testing"

	"weirgate/api"
	"weirgate/config"
)

// The calls have exactly these signatures.
var (
	_ func(int) (api.Config, api.Errno)                     = config.First
	_ func(api.Config) bool                                 = config.Good
	_ func(api.Config, ...api.Edit) (api.Config, api.Errno) = config.Edit
	_ func(a, b api.Config) bool                            = config.Same
	_ func(api.Config) api.Config                           = config.Copy
)

func first(t *testing.T, ports int) api.Config {
	t.Helper()
	c, e := config.First(ports)
	if e != api.OK {
		t.Fatalf("First(%d) is %v", ports, e)
	}
	return c
}

// rich is a configuration that has some of everything: three ports, VLANs of
// all, of some and of no ports, and addresses in two of them.
func rich() api.Config {
	return api.Config{
		Prio:   4096,
		MaxAge: 28,
		Delay:  15,
		Ports:  []api.PortCfg{{Up: true, Cost: 1, Pvid: 1}, {Cost: 200000000, Pvid: 10}, {Up: true, Cost: 7, Pvid: 4094}},
		Vlans:  []api.Vlan{{Id: 1, Member: 7, Tagged: 4}, {Id: 10, Member: 3, Tagged: 3}, {Id: 4094}},
		Statics: []api.Static{
			{Mac: 5, Vlan: 1, Port: 2}, {Mac: 1<<48 - 1 - 1<<40, Vlan: 1, Port: 0}, {Mac: 1, Vlan: 10, Port: 1},
		},
	}
}

// alike is Same by another way: field by field, place by place.
func alike(a, b api.Config) bool {
	if a.Prio != b.Prio || a.MaxAge != b.MaxAge || a.Delay != b.Delay {
		return false
	}
	if len(a.Ports) != len(b.Ports) || len(a.Vlans) != len(b.Vlans) || len(a.Statics) != len(b.Statics) {
		return false
	}
	for i := range a.Ports {
		if x, y := a.Ports[i], b.Ports[i]; x.Up != y.Up || x.Cost != y.Cost || x.Pvid != y.Pvid {
			return false
		}
	}
	for i := range a.Vlans {
		if x, y := a.Vlans[i], b.Vlans[i]; x.Id != y.Id || x.Member != y.Member || x.Tagged != y.Tagged {
			return false
		}
	}
	for i := range a.Statics {
		if x, y := a.Statics[i], b.Statics[i]; x.Mac != y.Mac || x.Vlan != y.Vlan || x.Port != y.Port {
			return false
		}
	}
	return true
}

func isZero(c api.Config) bool {
	return alike(c, api.Config{})
}

// P5.1: the first configuration, of 1 to MaxPorts ports.
func TestFirst(t *testing.T) {
	for n := 1; n <= api.MaxPorts; n++ {
		want := api.Config{Prio: 32768, MaxAge: 20, Delay: 15}
		member := 0
		for p := range n {
			want.Ports = append(want.Ports, api.PortCfg{Up: true, Cost: 20000, Pvid: 1})
			member += 1 << p
		}
		want.Vlans = []api.Vlan{{Id: 1, Member: uint8(member)}}
		if c := first(t, n); !alike(c, want) || !config.Good(c) {
			t.Errorf("First(%d) is %v", n, c)
		}
	}
	for _, n := range []int{0, -1, api.MaxPorts + 1, 2 * api.MaxPorts, 64, 256, math.MaxInt, math.MinInt} {
		if c, e := config.First(n); e != api.ErrArg || !isZero(c) {
			t.Errorf("First(%d) is %v, %v", n, c, e)
		}
	}
}

// P5.1: two first configurations share nothing.
func TestFirstIsNew(t *testing.T) {
	a, b := first(t, 4), first(t, 4)
	spoil(a)
	if !alike(b, first(t, 4)) {
		t.Errorf("it became %v", b)
	}
}

// changed is c, in memory of its own, with a change.
func changed(c api.Config, change func(c *api.Config)) api.Config {
	c.Ports, c.Vlans, c.Statics = slices.Clone(c.Ports), slices.Clone(c.Vlans), slices.Clone(c.Statics)
	change(&c)
	return c
}

// ask asks whether rich, with a change, may be.
func ask(t *testing.T, name string, want bool, change func(c *api.Config)) {
	t.Helper()
	c := changed(rich(), change)
	before := changed(c, func(*api.Config) {})
	if config.Good(c) != want {
		t.Errorf("%s: Good is not %v of %v", name, want, c)
	}
	if !alike(c, before) {
		t.Errorf("%s: Good changed %v to %v", name, before, c)
	}
}

func TestGood(t *testing.T) {
	ask(t, "as it is", true, func(c *api.Config) {})
	if config.Good(api.Config{}) {
		t.Error("an empty one")
	}
}

// P5.1: Prio from 0 to 61440, by 4096.
func TestGoodPrio(t *testing.T) {
	for n := -70000; n <= 140000; n++ {
		c := rich()
		c.Prio = n
		if config.Good(c) != slices.Contains([]int{0, 4096, 8192, 12288, 16384, 20480, 24576, 28672, 32768, 36864, 40960, 45056, 49152, 53248, 57344, 61440}, n) {
			t.Errorf("Prio %d", n)
		}
	}
	for _, n := range []int{math.MaxInt, math.MinInt, 1 << 32, 1<<32 + 4096, -1 << 32} {
		ask(t, "Prio", false, func(c *api.Config) { c.Prio = n })
	}
}

// P5.1: MaxAge from 6 to 40, Delay from 4 to 30, and two times (Delay less 1)
// not below MaxAge.
func TestGoodTimes(t *testing.T) {
	for age := -50; age <= 100; age++ {
		for delay := -50; delay <= 100; delay++ {
			c := rich()
			c.MaxAge, c.Delay = age, delay
			want := 6 <= age && age <= 40 && 4 <= delay && delay <= 30 && delay+delay-2 >= age
			if config.Good(c) != want {
				t.Errorf("MaxAge %d, Delay %d: Good is not %v", age, delay, want)
			}
		}
	}
	for _, x := range []struct {
		age, delay int
		want       bool
	}{
		{6, 4, true}, {5, 4, false}, {6, 3, false}, {7, 4, false}, {40, 30, true}, {41, 30, false}, {40, 31, false},
		{40, 21, true}, {40, 20, false}, {39, 21, true}, {28, 15, true}, {29, 15, false}, {6, 30, true},
		{6, math.MaxInt, false}, {6, math.MinInt, false}, {math.MaxInt, 15, false}, {math.MinInt, 15, false},
		{6, math.MinInt/2 + 5, false}, {6, math.MaxInt/2 + 5, false}, {20, 1<<32 + 15, false}, {1<<32 + 20, 15, false},
	} {
		ask(t, "times", x.want, func(c *api.Config) { c.MaxAge, c.Delay = x.age, x.delay })
	}
}

// P5.1: 1 to MaxPorts ports.
func TestGoodPortCount(t *testing.T) {
	for _, n := range []int{0, 1, 2, api.MaxPorts - 1, api.MaxPorts, api.MaxPorts + 1, 16, 64, 256, 257, 1 << 20} {
		c := first(t, 1)
		c.Vlans[0].Member = 0
		c.Ports = slices.Repeat(c.Ports, n)
		if config.Good(c) != (n >= 1 && n <= api.MaxPorts) {
			t.Errorf("%d ports", n)
		}
	}
	ask(t, "no list of ports", false, func(c *api.Config) { c.Ports = nil })
}

// P5.1: Cost from 1 to 200000000, Pvid one of the VLANs, at each port.
func TestGoodPorts(t *testing.T) {
	for p := range 3 {
		for _, x := range []struct {
			cost uint32
			want bool
		}{
			{0, false}, {1, true}, {2, true}, {20000, true}, {199999999, true}, {200000000, true}, {200000001, false},
			{math.MaxInt32, false}, {math.MaxInt32 + 1, false}, {math.MaxUint32, false},
		} {
			ask(t, "Cost", x.want, func(c *api.Config) { c.Ports[p].Cost = x.cost })
		}
		for _, x := range []struct {
			vlan int
			want bool
		}{
			{1, true}, {10, true}, {4094, true}, {0, false}, {2, false}, {9, false}, {11, false}, {4093, false}, {4095, false},
			{-1, false}, {-10, false}, {1<<32 + 1, false}, {math.MaxInt, false}, {math.MinInt, false},
		} {
			ask(t, "Pvid", x.want, func(c *api.Config) { c.Ports[p].Pvid = x.vlan })
		}
		for _, up := range []bool{false, true} {
			ask(t, "Up", true, func(c *api.Config) { c.Ports[p].Up = up })
		}
	}
}

// P5.1: 1 to MaxVlans VLANs.
func TestGoodVlanCount(t *testing.T) {
	for _, n := range []int{0, 1, 2, api.MaxVlans - 1, api.MaxVlans, api.MaxVlans + 1, 256, 257, 4094, 1 << 20} {
		c := first(t, 2)
		c.Vlans = nil
		for i := range n {
			c.Vlans = append(c.Vlans, api.Vlan{Id: i + 1})
		}
		if config.Good(c) != (n >= 1 && n <= api.MaxVlans) {
			t.Errorf("%d VLANs", n)
		}
	}
}

// P5.1: VLANs rise by Id, each Id from 1 to 4094.
func TestGoodVlanIds(t *testing.T) {
	for _, x := range []struct {
		ids  []int
		want bool
	}{
		{[]int{1}, true}, {[]int{4094}, true}, {[]int{0}, false}, {[]int{4095}, false}, {[]int{-1}, false},
		{[]int{math.MaxInt}, false}, {[]int{math.MinInt}, false}, {[]int{1<<32 + 1}, false}, {[]int{65537}, false},
		{[]int{1, 2}, true}, {[]int{1, 4094}, true}, {[]int{4093, 4094}, true}, {[]int{1, 2, 3}, true},
		{[]int{0, 1}, false}, {[]int{4094, 4095}, false}, {[]int{1, 4095}, false}, {[]int{math.MinInt, math.MaxInt}, false},
		{[]int{2, 1}, false}, {[]int{1, 1}, false}, {[]int{4094, 4094}, false}, {[]int{4094, 1}, false},
		{[]int{1, 2, 2}, false}, {[]int{1, 1, 2}, false}, {[]int{1, 3, 2}, false}, {[]int{2, 1, 3}, false}, {[]int{1, 2, 1}, false},
	} {
		c := first(t, 2)
		c.Vlans = nil
		for _, id := range x.ids {
			c.Vlans = append(c.Vlans, api.Vlan{Id: id})
		}
		for p := range c.Ports {
			c.Ports[p].Pvid = x.ids[0]
		}
		if config.Good(c) != x.want {
			t.Errorf("Ids %v: Good is not %v", x.ids, x.want)
		}
	}
}

// P5.1: Member only of ports that there are, Tagged only of members, in each
// VLAN.
func TestGoodMembers(t *testing.T) {
	for ports := 1; ports <= api.MaxPorts; ports++ {
		c := first(t, ports)
		c.Vlans = append(c.Vlans, api.Vlan{Id: 2})
		for i := range c.Vlans {
			for member := range 256 {
				for tagged := range 256 {
					want := true
					for p := range 8 {
						isMember, isTagged := member>>p%2 == 1, tagged>>p%2 == 1
						want = want && (!isMember || p < ports) && (!isTagged || isMember)
					}
					c.Vlans[i].Member, c.Vlans[i].Tagged = uint8(member), uint8(tagged)
					if config.Good(c) != want {
						t.Fatalf("%d ports, Member %b, Tagged %b: Good is not %v", ports, member, tagged, want)
					}
				}
			}
			c.Vlans[i].Member, c.Vlans[i].Tagged = 1, 0
		}
	}
}

// P5.1: at most MaxStatic Statics.
func TestGoodStaticCount(t *testing.T) {
	for _, n := range []int{0, 1, api.MaxStatic - 1, api.MaxStatic, api.MaxStatic + 1, 256, 257, 1 << 20} {
		c := first(t, 2)
		for i := range n {
			c.Statics = append(c.Statics, api.Static{Mac: uint64(i + 1), Vlan: 1, Port: i % 2})
		}
		if config.Good(c) != (n <= api.MaxStatic) {
			t.Errorf("%d Statics", n)
		}
	}
	ask(t, "an empty list of Statics", true, func(c *api.Config) { c.Statics = []api.Static{} })
	ask(t, "no list of Statics", true, func(c *api.Config) { c.Statics = nil })
}

// P5.1: Mac from 1 to 2^48 - 1, bit 40 not set.
func TestGoodMacs(t *testing.T) {
	for _, x := range []struct {
		mac  uint64
		want bool
	}{
		{0, false}, {1, true}, {2, true}, {1<<40 - 1, true}, {1 << 40, false}, {1<<40 + 1, false}, {1<<41 - 1, false},
		{1 << 41, true}, {1<<41 + 1<<40, false}, {1<<48 - 1, false}, {1<<48 - 1 - 1<<40, true}, {1<<48 - 1<<41, true},
		{1 << 48, false}, {1<<48 + 1, false}, {1 << 49, false}, {1 << 63, false}, {1<<63 + 1, false},
		{math.MaxUint64, false}, {math.MaxUint64 - 1<<40, false}, {1 << 39, true}, {1 << 47, true},
	} {
		ask(t, "Mac", x.want, func(c *api.Config) { c.Statics = []api.Static{{Mac: x.mac, Vlan: 1}} })
	}
	for bit := range 64 {
		ask(t, "one bit of a Mac", bit != 40 && bit < 48, func(c *api.Config) { c.Statics[2].Mac = 1 << bit })
	}
}

// P5.1: a Static's Vlan is one of the VLANs, its Port a member of that.
func TestGoodStaticPlaces(t *testing.T) {
	for _, vlan := range []int{1, 10, 4094, 0, 2, 9, 11, 4093, 4095, -1, 1<<32 + 1, math.MaxInt, math.MinInt} {
		for _, port := range []int{0, 1, 2, 3, 4, 7, 8, 9, 15, 63, 64, 65, 256, 1 << 32, -1, -8, -64, math.MaxInt, math.MinInt} {
			want := vlan == 1 && 0 <= port && port < 3 || vlan == 10 && 0 <= port && port < 2
			ask(t, "place", want, func(c *api.Config) { c.Statics = []api.Static{{Mac: 9, Vlan: vlan, Port: port}} })
		}
	}
	for member := range 8 {
		for port := range 3 {
			ask(t, "member", member>>port%2 == 1, func(c *api.Config) {
				c.Vlans[1] = api.Vlan{Id: 10, Member: uint8(member)}
				c.Statics = []api.Static{{Mac: 9, Vlan: 10, Port: port}}
			})
		}
	}
	c := first(t, 8)
	c.Statics = []api.Static{{Mac: 9, Vlan: 1, Port: 7}}
	if !config.Good(c) {
		t.Error("the last of all ports")
	}
}

// P5.1: Statics rise by Vlan, then by Mac, each once, whatever their ports.
func TestGoodStaticOrder(t *testing.T) {
	for _, x := range []struct {
		name string
		l    []api.Static
		want bool
	}{
		{"by Mac", []api.Static{{Mac: 1, Vlan: 1}, {Mac: 2, Vlan: 1}, {Mac: 3, Vlan: 1}}, true},
		{"by Vlan", []api.Static{{Mac: 9, Vlan: 1}, {Mac: 1, Vlan: 10}}, true},
		{"one Mac in two VLANs", []api.Static{{Mac: 9, Vlan: 1}, {Mac: 9, Vlan: 10}}, true},
		{"great ones", []api.Static{{Mac: 1, Vlan: 1}, {Mac: 1<<48 - 1 - 1<<40, Vlan: 1}}, true},
		{"Mac falls", []api.Static{{Mac: 2, Vlan: 1}, {Mac: 1, Vlan: 1}}, false},
		{"Mac falls at the end", []api.Static{{Mac: 1, Vlan: 1}, {Mac: 3, Vlan: 1}, {Mac: 2, Vlan: 1}}, false},
		{"Mac falls by far", []api.Static{{Mac: 1<<48 - 1 - 1<<40, Vlan: 1}, {Mac: 1, Vlan: 1}}, false},
		{"Vlan falls, Mac rises", []api.Static{{Mac: 1, Vlan: 10}, {Mac: 2, Vlan: 1}}, false},
		{"Vlan falls", []api.Static{{Mac: 1, Vlan: 10}, {Mac: 1, Vlan: 1}}, false},
		{"twice", []api.Static{{Mac: 1, Vlan: 1}, {Mac: 1, Vlan: 1}}, false},
		{"twice, at two ports", []api.Static{{Mac: 1, Vlan: 1}, {Mac: 1, Vlan: 1, Port: 1}}, false},
		{"ports fall", []api.Static{{Mac: 1, Vlan: 1, Port: 2}, {Mac: 2, Vlan: 1, Port: 1}, {Mac: 3, Vlan: 1}}, true},
	} {
		ask(t, x.name, x.want, func(c *api.Config) { c.Statics = x.l })
	}
}

// differences are changes of rich, each in one thing alone.
func differences() map[string]func(c *api.Config) {
	return map[string]func(c *api.Config){
		"Prio":              func(c *api.Config) { c.Prio = 8192 },
		"MaxAge":            func(c *api.Config) { c.MaxAge-- },
		"Delay":             func(c *api.Config) { c.Delay++ },
		"Up":                func(c *api.Config) { c.Ports[1].Up = true },
		"Cost":              func(c *api.Config) { c.Ports[2].Cost++ },
		"Pvid":              func(c *api.Config) { c.Ports[0].Pvid = 10 },
		"one port less":     func(c *api.Config) { c.Ports = c.Ports[:2] },
		"one port more":     func(c *api.Config) { c.Ports = append(c.Ports, api.PortCfg{}) },
		"no ports":          func(c *api.Config) { c.Ports = nil },
		"two ports changed": func(c *api.Config) { c.Ports[0], c.Ports[1] = c.Ports[1], c.Ports[0] },
		"Id":                func(c *api.Config) { c.Vlans[2].Id-- },
		"Member":            func(c *api.Config) { c.Vlans[2].Member = 4 },
		"Tagged":            func(c *api.Config) { c.Vlans[0].Tagged = 5 },
		"one VLAN less":     func(c *api.Config) { c.Vlans = c.Vlans[:2] },
		"one VLAN more":     func(c *api.Config) { c.Vlans = append(c.Vlans, api.Vlan{}) },
		"no VLANs":          func(c *api.Config) { c.Vlans = nil },
		"Mac":               func(c *api.Config) { c.Statics[2].Mac++ },
		"Vlan":              func(c *api.Config) { c.Statics[2].Vlan++ },
		"Port":              func(c *api.Config) { c.Statics[0].Port = 0 },
		"one Static less":   func(c *api.Config) { c.Statics = c.Statics[:2] },
		"one Static more":   func(c *api.Config) { c.Statics = append(c.Statics, api.Static{}) },
		"no Statics":        func(c *api.Config) { c.Statics = nil },
	}
}

// P5.1: alike in all, whether or not they may be.
func TestSame(t *testing.T) {
	if !config.Same(rich(), rich()) || !config.Same(api.Config{}, api.Config{}) {
		t.Error("alike")
	}
	all := differences()
	for name, change := range all {
		for other, changeOther := range all {
			a, b := changed(rich(), change), changed(rich(), changeOther)
			if config.Same(a, b) != (name == other) {
				t.Errorf("%s and %s: Same is not %v", name, other, name == other)
			}
		}
		if a := changed(rich(), change); config.Same(a, rich()) || config.Same(rich(), a) {
			t.Errorf("%s: not told", name)
		}
	}
	empty := api.Config{Ports: []api.PortCfg{}, Vlans: make([]api.Vlan, 0, 5), Statics: []api.Static{}}
	if !config.Same(empty, api.Config{}) || !config.Same(api.Config{}, empty) {
		t.Error("nil and empty lists are one")
	}
}

// spoil turns all that c's lists hold, their spare room too.
func spoil(c api.Config) {
	for i := range c.Ports[:cap(c.Ports)] {
		c.Ports[:cap(c.Ports)][i] = api.PortCfg{Cost: 77, Pvid: 77}
	}
	for i := range c.Vlans[:cap(c.Vlans)] {
		c.Vlans[:cap(c.Vlans)][i] = api.Vlan{Id: 77, Member: 77, Tagged: 77}
	}
	for i := range c.Statics[:cap(c.Statics)] {
		c.Statics[:cap(c.Statics)][i] = api.Static{Mac: 77, Vlan: 77, Port: 77}
	}
}

// roomy is c in lists that have spare room; the second is the same memory, the
// spare room a part of its lists.
func roomy(c api.Config) (inner, whole api.Config) {
	whole = c
	whole.Ports = slices.Concat(c.Ports, slices.Repeat([]api.PortCfg{{Cost: 99, Pvid: 99}}, 40))
	whole.Vlans = slices.Concat(c.Vlans, slices.Repeat([]api.Vlan{{Id: 99, Member: 99, Tagged: 99}}, 40))
	whole.Statics = slices.Concat(c.Statics, slices.Repeat([]api.Static{{Mac: 99, Vlan: 99, Port: 99}}, 40))
	inner = c
	inner.Ports = whole.Ports[:len(c.Ports)]
	inner.Vlans = whole.Vlans[:len(c.Vlans)]
	inner.Statics = whole.Statics[:len(c.Statics)]
	return inner, whole
}

// ownMemory asks that what is told of c shares no memory with it, and is told
// without a change of it: tell's answer is turned, then c is.
func ownMemory(t *testing.T, name string, c api.Config, tell func(c api.Config) api.Config) {
	t.Helper()
	inner, whole := roomy(c)
	_, before := roomy(c)
	told := tell(inner)
	if !alike(whole, before) {
		t.Errorf("%s: what was handed in became %v", name, whole)
	}
	want := changed(told, func(*api.Config) {})
	spoil(whole)
	if !alike(told, want) {
		t.Errorf("%s: %v became %v", name, want, told)
	}
	inner, whole = roomy(c)
	spoil(tell(inner))
	if !alike(whole, before) {
		t.Errorf("%s: %v became %v", name, before, whole)
	}
	one, other := tell(inner), tell(inner)
	spoil(one)
	if !alike(other, want) {
		t.Errorf("%s: two answers share memory", name)
	}
}

// P5.1: a copy is alike, in new memory, whether or not the thing may be.
func TestCopy(t *testing.T) {
	all := differences()
	all["as it is"] = func(c *api.Config) {}
	all["empty"] = func(c *api.Config) { *c = api.Config{} }
	all["empty lists"] = func(c *api.Config) {
		*c = api.Config{Ports: []api.PortCfg{}, Vlans: []api.Vlan{}, Statics: []api.Static{}}
	}
	all["far numbers"] = func(c *api.Config) {
		c.Prio, c.MaxAge, c.Delay, c.Statics[0].Mac = math.MinInt, math.MaxInt, -1, math.MaxUint64
	}
	all["long lists"] = func(c *api.Config) { c.Vlans = slices.Repeat(c.Vlans, 5000) }
	for name, change := range all {
		c := changed(rich(), change)
		if d := config.Copy(c); !alike(c, d) {
			t.Errorf("%s: the copy of %v is %v", name, c, d)
		}
		ownMemory(t, name, c, config.Copy)
	}
}
