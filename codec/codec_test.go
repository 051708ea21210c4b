package codec_test

import (
	"encoding/binary"
	"math"
	"math/rand"
	"slices"
	"testing"

	"weirgate/api"
	"weirgate/codec"
	"weirgate/config"
)

// The calls have exactly these signatures.
var (
	_ func(api.Config) ([]byte, api.Errno)  = codec.Config
	_ func([]byte) (api.Config, api.Errno)  = codec.Parse
	_ func(...api.Edit) ([]byte, api.Errno) = codec.Edits
	_ func([]byte) ([]api.Edit, api.Errno)  = codec.List
)

// least is the least configuration that may be.
func least() api.Config {
	return api.Config{
		MaxAge: 6,
		Delay:  4,
		Ports:  []api.PortCfg{{Cost: 1, Pvid: 1}},
		Vlans:  []api.Vlan{{Id: 1}},
	}
}

// greatest has as many of everything as there may be, and all at their ends.
func greatest() api.Config {
	c := api.Config{Prio: 61440, MaxAge: 40, Delay: 30}
	for range api.MaxPorts {
		c.Ports = append(c.Ports, api.PortCfg{Up: true, Cost: 200000000, Pvid: 4094})
	}
	for i := range api.MaxVlans {
		c.Vlans = append(c.Vlans, api.Vlan{Id: 4094 - api.MaxVlans + 1 + i, Member: 255, Tagged: 255})
	}
	for i := range api.MaxStatic {
		c.Statics = append(c.Statics, api.Static{Mac: 0xfeffffffffff - api.MaxStatic + 1 + uint64(i), Vlan: 4094, Port: 7})
	}
	return c
}

// rich has some of everything, and no two numbers alike that could be taken
// for each other.
func rich() api.Config {
	return api.Config{
		Prio:   4096,
		MaxAge: 28,
		Delay:  15,
		Ports:  []api.PortCfg{{Up: true, Cost: 1, Pvid: 1}, {Cost: 0x01020304, Pvid: 0x0506}, {Up: true, Cost: 7, Pvid: 4094}},
		Vlans:  []api.Vlan{{Id: 1, Member: 7, Tagged: 4}, {Id: 0x0506, Member: 3, Tagged: 2}, {Id: 4094}},
		Statics: []api.Static{
			{Mac: 5, Vlan: 1, Port: 2}, {Mac: 0xfeffffffffff, Vlan: 1, Port: 0}, {Mac: 0x020304050607, Vlan: 0x0506, Port: 1},
		},
	}
}

func richBytes() []byte {
	return []byte{
		0x10, 0x00, 28, 15,
		3,
		1, 0, 0, 0, 1, 0, 1,
		0, 1, 2, 3, 4, 5, 6,
		1, 0, 0, 0, 7, 0x0f, 0xfe,
		3,
		0, 1, 7, 4,
		5, 6, 3, 2,
		0x0f, 0xfe, 0, 0,
		3,
		0, 0, 0, 0, 0, 5, 0, 1, 2,
		0xfe, 0xff, 0xff, 0xff, 0xff, 0xff, 0, 1, 0,
		2, 3, 4, 5, 6, 7, 5, 6, 1,
	}
}

// configBytes is a configuration's bytes by another way, whether or not it may
// be: for bytes of what may not be, too.
func configBytes(c api.Config) []byte {
	b := binary.BigEndian.AppendUint16(nil, uint16(c.Prio))
	b = append(b, byte(c.MaxAge), byte(c.Delay), byte(len(c.Ports)))
	for _, p := range c.Ports {
		up := byte(0)
		if p.Up {
			up = 1
		}
		b = binary.BigEndian.AppendUint32(append(b, up), p.Cost)
		b = binary.BigEndian.AppendUint16(b, uint16(p.Pvid))
	}
	b = append(b, byte(len(c.Vlans)))
	for _, v := range c.Vlans {
		b = append(binary.BigEndian.AppendUint16(b, uint16(v.Id)), v.Member, v.Tagged)
	}
	b = append(b, byte(len(c.Statics)))
	for _, s := range c.Statics {
		b = appendMac(b, s.Mac)
		b = append(binary.BigEndian.AppendUint16(b, uint16(s.Vlan)), byte(s.Port))
	}
	return b
}

func appendMac(b []byte, mac uint64) []byte {
	return append(b, binary.BigEndian.AppendUint64(nil, mac)[2:]...)
}

// editBytes is edits' bytes by another way, whatever their kinds.
func editBytes(l ...api.Edit) []byte {
	b := []byte{byte(len(l))}
	for _, e := range l {
		b = binary.BigEndian.AppendUint32(append(b, byte(e.Kind), byte(e.Port)), uint32(e.N))
		b = append(binary.BigEndian.AppendUint16(b, uint16(e.Vlan)), e.Member, e.Tagged)
		b = appendMac(b, e.Mac)
	}
	return b
}

func isZero(c api.Config) bool {
	return c.Prio == 0 && c.MaxAge == 0 && c.Delay == 0 && len(c.Ports) == 0 && len(c.Vlans) == 0 && len(c.Statics) == 0
}

// bothWays is c and b there and back.
func bothWays(t *testing.T, c api.Config, b []byte) {
	t.Helper()
	if got, e := codec.Config(c); e != api.OK || !slices.Equal(got, b) {
		t.Errorf("Config(%v) is %v, %v; want %v", c, got, e, b)
	}
	if got, e := codec.Parse(b); e != api.OK || !config.Same(got, c) {
		t.Errorf("Parse(%v) is %v, %v; want %v", b, got, e, c)
	}
}

// editsBothWays is l and b there and back.
func editsBothWays(t *testing.T, l []api.Edit, b []byte) {
	t.Helper()
	if got, e := codec.Edits(l...); e != api.OK || !slices.Equal(got, b) {
		t.Errorf("Edits(%v) is %v, %v; want %v", l, got, e, b)
	}
	if got, e := codec.List(b); e != api.OK || !slices.Equal(got, l) {
		t.Errorf("List(%v) is %v, %v; want %v", b, got, e, l)
	}
}

func noConfig(t *testing.T, what string, b []byte) {
	t.Helper()
	if c, e := codec.Parse(b); e != api.ErrForm || !isZero(c) {
		t.Errorf("%s: Parse(%v) is %v, %v; want ErrForm", what, b, c, e)
	}
}

func noList(t *testing.T, what string, b []byte) {
	t.Helper()
	if l, e := codec.List(b); e != api.ErrForm || len(l) != 0 {
		t.Errorf("%s: List(%v) is %v, %v; want ErrForm", what, b, l, e)
	}
}

// P6.1, P6.3: bytes written out by hand, there and back.
func TestConfigBytes(t *testing.T) {
	bothWays(t, rich(), richBytes())
	bothWays(t, least(), []byte{0, 0, 6, 4, 1, 0, 0, 0, 0, 1, 0, 1, 1, 0, 1, 0, 0, 0})
	first, _ := config.First(1)
	bothWays(t, first, []byte{0x80, 0, 20, 15, 1, 1, 0, 0, 0x4e, 0x20, 0, 1, 1, 0, 1, 1, 0, 0})
}

// P6.1: the greatest has a byte for all that it has, and no more.
func TestGreatestConfig(t *testing.T) {
	c := greatest()
	b := configBytes(c)
	if len(b) != 2+1+1+1+8*7+1+16*4+1+16*9 {
		t.Fatalf("%d bytes", len(b))
	}
	bothWays(t, c, b)
	head := []byte{0xf0, 0, 40, 30, 8, 1, 0x0b, 0xeb, 0xc2, 0, 0x0f, 0xfe}
	if got, _ := codec.Config(c); !slices.Equal(got[:len(head)], head) {
		t.Errorf("begins with %v", got[:len(head)])
	}
}

// P6.1: each number at each end of its range, and one beyond.
func TestConfigNumbers(t *testing.T) {
	for _, x := range []struct {
		what string
		good bool
		set  func(c *api.Config)
	}{
		{"least Prio", true, func(c *api.Config) { c.Prio = 0 }},
		{"greatest Prio", true, func(c *api.Config) { c.Prio = 61440 }},
		{"Prio beyond", false, func(c *api.Config) { c.Prio = 65536 }},
		{"Prio below", false, func(c *api.Config) { c.Prio = -4096 }},
		{"Prio between", false, func(c *api.Config) { c.Prio = 4097 }},
		{"least MaxAge", true, func(c *api.Config) { c.MaxAge = 6 }},
		{"greatest MaxAge", true, func(c *api.Config) { c.MaxAge, c.Delay = 40, 30 }},
		{"MaxAge below", false, func(c *api.Config) { c.MaxAge = 5 }},
		{"MaxAge beyond", false, func(c *api.Config) { c.MaxAge, c.Delay = 41, 30 }},
		{"MaxAge and 256", false, func(c *api.Config) { c.MaxAge = 256 + 20 }},
		{"least Delay", true, func(c *api.Config) { c.MaxAge, c.Delay = 6, 4 }},
		{"greatest Delay", true, func(c *api.Config) { c.Delay = 30 }},
		{"Delay below", false, func(c *api.Config) { c.MaxAge, c.Delay = 6, 3 }},
		{"Delay beyond", false, func(c *api.Config) { c.Delay = 31 }},
		{"Delay and MaxAge", false, func(c *api.Config) { c.MaxAge, c.Delay = 29, 15 }},
		{"up", true, func(c *api.Config) { c.Ports[0].Up = true }},
		{"down", true, func(c *api.Config) { c.Ports[0].Up = false }},
		{"least Cost", true, func(c *api.Config) { c.Ports[0].Cost = 1 }},
		{"greatest Cost", true, func(c *api.Config) { c.Ports[0].Cost = 200000000 }},
		{"Cost below", false, func(c *api.Config) { c.Ports[0].Cost = 0 }},
		{"Cost beyond", false, func(c *api.Config) { c.Ports[0].Cost = 200000001 }},
		{"Cost at its bytes' end", false, func(c *api.Config) { c.Ports[0].Cost = math.MaxUint32 }},
		{"greatest Pvid", true, func(c *api.Config) { c.Ports[0].Pvid = 4094 }},
		{"Pvid of no VLAN", false, func(c *api.Config) { c.Ports[0].Pvid = 2 }},
		{"Pvid and 65536", false, func(c *api.Config) { c.Ports[0].Pvid = 65536 + 1 }},
		{"VLAN below", false, func(c *api.Config) { c.Vlans = slices.Insert(c.Vlans, 0, api.Vlan{}) }},
		{"VLAN beyond", false, func(c *api.Config) { c.Vlans = append(c.Vlans, api.Vlan{Id: 4095}) }},
		{"VLAN twice", false, func(c *api.Config) { c.Vlans = append(c.Vlans, c.Vlans[2]) }},
		{"VLANs falling", false, func(c *api.Config) { slices.Reverse(c.Vlans) }},
		{"no members", true, func(c *api.Config) { c.Vlans[2].Member = 0 }},
		{"all members, all tagged", true, func(c *api.Config) { c.Vlans[2].Member, c.Vlans[2].Tagged = 7, 7 }},
		{"a member that is no port", false, func(c *api.Config) { c.Vlans[2].Member = 8 }},
		{"tagged, and no member", false, func(c *api.Config) { c.Vlans[2].Tagged = 1 }},
		{"least Mac", true, func(c *api.Config) { c.Statics[0].Mac = 1 }},
		{"Mac below", false, func(c *api.Config) { c.Statics[0].Mac = 0 }},
		{"a group's Mac", false, func(c *api.Config) { c.Statics[0].Mac = 1 << 40 }},
		{"a group's greatest Mac", false, func(c *api.Config) { c.Statics[1].Mac = 1<<48 - 1 }},
		{"Mac and 2^48", false, func(c *api.Config) { c.Statics[2].Mac += 1 << 48 }},
		{"a Static of no VLAN", false, func(c *api.Config) { c.Statics[2].Vlan = 0x0507 }},
		{"a Static at no member", false, func(c *api.Config) { c.Statics[2].Port = 2 }},
		{"a Static at no port", false, func(c *api.Config) { c.Statics[2].Port = 255 }},
		{"a Static at port and 256", false, func(c *api.Config) { c.Statics[2].Port = 257 }},
		{"Statics twice", false, func(c *api.Config) { c.Statics = append(c.Statics, c.Statics[2]) }},
		{"Statics falling", false, func(c *api.Config) { slices.Reverse(c.Statics) }},
		{"no Statics", true, func(c *api.Config) { c.Statics = nil }},
		{"no ports", false, func(c *api.Config) { c.Ports = nil }},
		{"no VLANs", false, func(c *api.Config) { c.Vlans, c.Statics = nil, nil }},
	} {
		c := rich()
		x.set(&c)
		if x.good {
			bothWays(t, c, configBytes(c))
			continue
		}
		if b, e := codec.Config(c); e != api.ErrConfig || len(b) != 0 {
			t.Errorf("%s: Config is %v, %v; want ErrConfig", x.what, b, e)
		}
	}
}

// P6.1: the same for bytes: what has room in them, but may not be.
func TestBytesOfNoConfig(t *testing.T) {
	for what, set := range map[string]func(c *api.Config){
		"Prio between":            func(c *api.Config) { c.Prio = 4097 },
		"Prio at its bytes' end":  func(c *api.Config) { c.Prio = 65535 },
		"MaxAge below":            func(c *api.Config) { c.MaxAge = 5 },
		"MaxAge beyond":           func(c *api.Config) { c.MaxAge, c.Delay = 41, 30 },
		"Delay below":             func(c *api.Config) { c.MaxAge, c.Delay = 6, 3 },
		"Delay beyond":            func(c *api.Config) { c.Delay = 31 },
		"Delay and MaxAge":        func(c *api.Config) { c.MaxAge, c.Delay = 29, 15 },
		"Cost below":              func(c *api.Config) { c.Ports[2].Cost = 0 },
		"Cost beyond":             func(c *api.Config) { c.Ports[2].Cost = 200000001 },
		"Pvid of no VLAN":         func(c *api.Config) { c.Ports[2].Pvid = 4093 },
		"VLAN below":              func(c *api.Config) { c.Vlans = slices.Insert(c.Vlans, 0, api.Vlan{}) },
		"VLAN beyond":             func(c *api.Config) { c.Vlans = append(c.Vlans, api.Vlan{Id: 4095}) },
		"VLAN twice":              func(c *api.Config) { c.Vlans = append(c.Vlans, c.Vlans[2]) },
		"VLANs falling":           func(c *api.Config) { slices.Reverse(c.Vlans) },
		"a member that's no port": func(c *api.Config) { c.Vlans[2].Member = 8 },
		"tagged, and no member":   func(c *api.Config) { c.Vlans[2].Tagged = 1 },
		"Mac below":               func(c *api.Config) { c.Statics[0].Mac = 0 },
		"a group's Mac":           func(c *api.Config) { c.Statics[1].Mac = 1<<48 - 1 },
		"a Static of no VLAN":     func(c *api.Config) { c.Statics[2].Vlan = 0x0507 },
		"a Static at no member":   func(c *api.Config) { c.Statics[2].Port = 2 },
		"a Static at no port":     func(c *api.Config) { c.Statics[2].Port = 255 },
		"Statics twice":           func(c *api.Config) { c.Statics = append(c.Statics, c.Statics[2]) },
		"Statics falling":         func(c *api.Config) { slices.Reverse(c.Statics) },
		"no ports":                func(c *api.Config) { c.Ports = nil },
		"no VLANs":                func(c *api.Config) { c.Vlans, c.Statics = nil, nil },
	} {
		c := rich()
		set(&c)
		noConfig(t, what, configBytes(c))
	}
}

// P6.1: as many as there may be, and one more.
func TestConfigSizes(t *testing.T) {
	for what, set := range map[string]func(c *api.Config){
		"ports":   func(c *api.Config) { c.Ports = append(c.Ports, c.Ports[0]) },
		"VLANs":   func(c *api.Config) { c.Vlans = slices.Insert(c.Vlans, 0, api.Vlan{Id: 1}) },
		"Statics": func(c *api.Config) { c.Statics = slices.Insert(c.Statics, 0, api.Static{Mac: 1, Vlan: 4094}) },
	} {
		c := greatest()
		set(&c)
		if b, e := codec.Config(c); e != api.ErrConfig || len(b) != 0 {
			t.Errorf("one more of %s: Config is %v, %v", what, b, e)
		}
		noConfig(t, "one more of "+what, configBytes(c))
	}
	c := least()
	c.Statics = make([]api.Static, 256) // a count of one byte would say none
	if b, e := codec.Config(c); e != api.ErrConfig || len(b) != 0 {
		t.Errorf("256 Statics: Config is %v, %v", b, e)
	}
	if b, e := codec.Config(api.Config{}); e != api.ErrConfig || len(b) != 0 {
		t.Errorf("the zero configuration: Config is %v, %v", b, e)
	}
}

// P6.1: bytes that are none of a configuration.
func TestBytesOfNothing(t *testing.T) {
	good := richBytes()
	noConfig(t, "nil", nil)
	noConfig(t, "no bytes", []byte{})
	for _, c := range []api.Config{least(), rich(), greatest()} {
		b := configBytes(c)
		for n := range b {
			noConfig(t, "fewer bytes", b[:n])
		}
		for x := range 256 {
			noConfig(t, "a byte more", append(slices.Clone(b), byte(x)))
		}
		noConfig(t, "twice", slices.Concat(b, b))
	}
	for x := 2; x < 256; x++ {
		for _, at := range []int{5, 12, 19} {
			b := slices.Clone(good)
			b[at] = byte(x)
			noConfig(t, "an up that is neither 0 nor 1", b)
		}
	}
	for _, at := range []int{4, 26, 39} {
		if good[at] != 3 {
			t.Fatalf("no count at %d", at)
		}
		for x := range 256 {
			if x != 3 {
				b := slices.Clone(good)
				b[at] = byte(x)
				noConfig(t, "another count", b)
			}
		}
	}
	for x := range 256 {
		for _, n := range []int{1, 18, 300, 5000} {
			noConfig(t, "one byte over and over", slices.Repeat([]byte{byte(x)}, n))
		}
	}
}

// P6.2: bytes written out by hand, there and back.
func TestEditBytes(t *testing.T) {
	editsBothWays(t, nil, []byte{0})
	editsBothWays(t, []api.Edit{
		{Kind: 7, Port: 8, N: 0x01020304, Vlan: 0x0506, Member: 9, Tagged: 10, Mac: 0x0b0c0d0e0f10},
		{Kind: 1},
	}, []byte{
		2,
		7, 8, 1, 2, 3, 4, 5, 6, 9, 10, 11, 12, 13, 14, 15, 16,
		1, 0, 0, 0, 0, 0, 0, 0, 0, 0, 0, 0, 0, 0, 0, 0,
	})
	if b, e := codec.Edits([]api.Edit{}...); e != api.OK || !slices.Equal(b, []byte{0}) {
		t.Errorf("Edits of an empty list is %v, %v", b, e)
	}
}

// P6.2: each number at each end of an edit's form, and one beyond; what a kind
// does not name has its bytes all the same.
func TestEditForms(t *testing.T) {
	for kind := api.SetPrio; kind <= api.StaticDel; kind++ {
		for _, e := range []api.Edit{
			{},
			{Port: 255},
			{N: math.MaxUint32},
			{Vlan: 65535},
			{Member: 255},
			{Tagged: 255},
			{Mac: 1<<48 - 1},
			{Port: 255, N: math.MaxUint32, Vlan: 65535, Member: 255, Tagged: 255, Mac: 1<<48 - 1},
		} {
			e.Kind = kind
			editsBothWays(t, []api.Edit{e}, editBytes(e))
		}
		for _, e := range []api.Edit{
			{Port: -1}, {Port: 256}, {Port: math.MaxInt}, {Port: math.MinInt},
			{N: -1}, {N: 1 << 32}, {N: math.MaxInt}, {N: math.MinInt},
			{Vlan: -1}, {Vlan: 65536}, {Vlan: math.MaxInt}, {Vlan: math.MinInt},
			{Mac: 1 << 48}, {Mac: math.MaxUint64},
		} {
			e.Kind = kind
			noEdits(t, api.ErrForm, e)
			noEdits(t, api.ErrForm, api.Edit{Kind: 1}, e)
			noEdits(t, api.ErrForm, e, api.Edit{Kind: 1})
		}
	}
	for _, kind := range []int{0, -1, 11, 256, 257, math.MaxInt, math.MinInt} {
		noEdits(t, api.ErrForm, api.Edit{Kind: kind})
	}
}

func noEdits(t *testing.T, want api.Errno, l ...api.Edit) {
	t.Helper()
	if b, e := codec.Edits(l...); e != want || len(b) != 0 {
		t.Errorf("Edits(%v) is %v, %v; want %v", l, b, e, want)
	}
}

// P6.2: MaxEdits of them, and one more; ErrMany is told ahead of ErrForm.
func TestManyEdits(t *testing.T) {
	for n := range api.MaxEdits + 1 {
		var l []api.Edit
		for i := range n {
			l = append(l, api.Edit{Kind: 1 + i%10, Port: i, N: 1000 * i, Mac: uint64(i)})
		}
		editsBothWays(t, l, editBytes(l...))
	}
	for _, n := range []int{api.MaxEdits + 1, 255, 256, 257, 256 + api.MaxEdits} {
		good := slices.Repeat([]api.Edit{{Kind: api.SetPrio}}, n)
		noEdits(t, api.ErrMany, good...)
		noEdits(t, api.ErrMany, make([]api.Edit, n)...)
		noList(t, "too many", editBytes(good...))
	}
	full := make([]api.Edit, api.MaxEdits)
	noEdits(t, api.ErrForm, full...)
}

// P6.2: bytes that are none of edits.
func TestBytesOfNoEdits(t *testing.T) {
	good := editBytes(api.Edit{Kind: 2, N: 7}, api.Edit{Kind: 9, Mac: 5}, api.Edit{Kind: 10, Port: 3})
	noList(t, "nil", nil)
	noList(t, "no bytes", []byte{})
	for n := range good {
		noList(t, "fewer bytes", good[:n])
	}
	for x := range 256 {
		b := append(slices.Clone(good), byte(x))
		noList(t, "a byte more", b)
		noList(t, "a byte behind none", []byte{0, byte(x)})
		if x != 3 {
			b = slices.Clone(good)
			b[0] = byte(x)
			noList(t, "another count", b)
		}
		if x < 1 || x > 10 {
			for _, at := range []int{1, 17, 33} {
				b = slices.Clone(good)
				b[at] = byte(x)
				noList(t, "another kind", b)
			}
		}
	}
	noList(t, "twice", slices.Concat(good, good))
	noList(t, "255 of them", slices.Repeat([]byte{255}, 1+255*16))
	noList(t, "255 of a good kind", append([]byte{255}, slices.Repeat([]byte{1}, 255*16)...))
}

// P6.3: what may be is there and back the same, configurations that edits have
// led to, and edits.
func TestThereAndBack(t *testing.T) {
	for seed := range int64(40) {
		play := rand.New(rand.NewSource(seed))
		c, _ := config.First(1 + play.Intn(api.MaxPorts))
		for range 200 {
			l := anyEdits(play, len(c.Ports))
			editsBothWays(t, l, editBytes(l...))
			if next, e := config.Edit(c, l...); e == api.OK {
				c = next
				bothWays(t, c, configBytes(c))
			}
		}
	}
}

func anyEdits(play *rand.Rand, ports int) []api.Edit {
	var l []api.Edit
	for range play.Intn(4) {
		member := uint8(play.Intn(1 << ports))
		l = append(l, api.Edit{
			Kind:   1 + play.Intn(10),
			Port:   play.Intn(ports),
			N:      []int{0, 1, 10, 20, 4096, 61440}[play.Intn(6)],
			Vlan:   1 + play.Intn(20),
			Member: member,
			Tagged: member & uint8(play.Intn(256)),
			Mac:    play.Uint64() & 0xfeffffffffff,
		})
	}
	return l
}

// P6.3, the other way: bytes are either none, or what is written again. Each
// byte of good ones is turned to each other value, and random bytes follow.
func TestBackAndThere(t *testing.T) {
	again := func(b []byte) {
		t.Helper()
		if c, e := codec.Parse(b); e == api.OK {
			if !config.Good(c) {
				t.Errorf("Parse(%v) is %v, which may not be", b, c)
			}
			if got, e := codec.Config(c); e != api.OK || !slices.Equal(got, b) {
				t.Errorf("Config of Parse(%v) is %v, %v", b, got, e)
			}
		} else if e != api.ErrForm || !isZero(c) {
			t.Errorf("Parse(%v) is %v, %v", b, c, e)
		}
		if l, e := codec.List(b); e == api.OK {
			if got, e := codec.Edits(l...); e != api.OK || !slices.Equal(got, b) {
				t.Errorf("Edits of List(%v) is %v, %v", b, got, e)
			}
		} else if e != api.ErrForm || len(l) != 0 {
			t.Errorf("List(%v) is %v, %v", b, l, e)
		}
	}
	for _, good := range [][]byte{
		configBytes(least()), richBytes(), configBytes(greatest()),
		editBytes(api.Edit{Kind: 5, N: 7}, api.Edit{Kind: 9, Mac: 5}),
	} {
		for at := range good {
			b := slices.Clone(good)
			for x := range 256 {
				b[at] = byte(x)
				again(b)
			}
		}
	}
	play := rand.New(rand.NewSource(1))
	for range 20000 {
		b := make([]byte, play.Intn(80))
		for i := range b {
			b[i] = byte(play.Intn(12))
		}
		again(b)
	}
}

// roomy is l with spare room behind it that holds x.
func roomy[T any](l []T, x T) []T {
	return append(slices.Clone(l), x, x, x)[:len(l)]
}

// Rule 2: arguments are not changed, not in their spare room either, and
// answers share memory with nothing.
func TestConfigMemory(t *testing.T) {
	c := rich()
	c.Ports = roomy(c.Ports, api.PortCfg{Pvid: 9})
	c.Vlans = roomy(c.Vlans, api.Vlan{Id: 9})
	c.Statics = roomy(c.Statics, api.Static{Port: 9})
	b, _ := codec.Config(c)
	other, _ := codec.Config(c)
	spoil(b, 99)
	if !slices.Equal(other, richBytes()) {
		t.Error("two answers of Config share memory")
	}
	if !config.Same(c, rich()) || c.Ports[:6][5].Pvid != 9 || c.Vlans[:6][5].Id != 9 || c.Statics[:6][5].Port != 9 {
		t.Error("Config changed its argument")
	}
	in := roomy(richBytes(), 77)
	p, _ := codec.Parse(in)
	q, _ := codec.Parse(in)
	spoil(p.Ports, api.PortCfg{})
	spoil(p.Vlans, api.Vlan{})
	spoil(p.Statics, api.Static{})
	if !slices.Equal(in, richBytes()) || !slices.Equal(in[len(in):len(in)+3], []byte{77, 77, 77}) {
		t.Error("Parse changed its argument")
	}
	spoil(in, 0)
	if !config.Same(q, rich()) {
		t.Error("answers of Parse share memory")
	}
}

func TestEditMemory(t *testing.T) {
	want := []api.Edit{{Kind: 5, Port: 2, N: 7}, {Kind: 9, Vlan: 3, Mac: 5}}
	l := roomy(want, api.Edit{Kind: 8})
	b, _ := codec.Edits(l...)
	other, _ := codec.Edits(l...)
	spoil(b, 99)
	if !slices.Equal(other, editBytes(want...)) {
		t.Error("two answers of Edits share memory")
	}
	if !slices.Equal(l, want) || l[:5][4].Kind != 8 {
		t.Error("Edits changed its argument")
	}
	in := roomy(editBytes(want...), 77)
	m, _ := codec.List(in)
	n, _ := codec.List(in)
	spoil(m, api.Edit{})
	if !slices.Equal(in, editBytes(want...)) || !slices.Equal(in[len(in):len(in)+3], []byte{77, 77, 77}) {
		t.Error("List changed its argument")
	}
	spoil(in, 0)
	if !slices.Equal(n, want) {
		t.Error("answers of List share memory")
	}
}

// spoil writes x all over l and its spare room.
func spoil[T any](l []T, x T) {
	l = l[:cap(l)]
	for i := range l {
		l[i] = x
	}
}
