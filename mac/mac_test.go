package mac_test

import (
	"encoding/binary"
	"fmt"
	"math"
	"math/rand"
	"slices"
	"strings"
	"testing"

	"weirgate/api"
	"weirgate/mac"
)

// The calls have exactly these signatures.
var (
	_ func(uint64) bool                 = mac.Good
	_ func(uint64) bool                 = mac.Group
	_ func(uint64) bool                 = mac.Kept
	_ func(uint64) string               = mac.Text
	_ func(string) (uint64, api.Errno)  = mac.Parse
	_ func(uint64) [6]byte              = mac.Bytes
	_ func(...byte) (uint64, api.Errno) = mac.Of
)

// known is what the calls tell of a number, written out by hand.
type known struct {
	a                 uint64
	good, group, kept bool
	b                 [6]byte
	s                 string
}

func knowns() []known {
	return []known{
		{0, true, false, false, [6]byte{}, "00:00:00:00:00:00"},
		{1, true, false, false, [6]byte{0, 0, 0, 0, 0, 1}, "00:00:00:00:00:01"},
		{0x0123456789ab, true, true, false, [6]byte{0x01, 0x23, 0x45, 0x67, 0x89, 0xab}, "01:23:45:67:89:ab"},
		{0xcdef00112233, true, true, false, [6]byte{0xcd, 0xef, 0, 0x11, 0x22, 0x33}, "cd:ef:00:11:22:33"},
		{0x02fedcba9876, true, false, false, [6]byte{0x02, 0xfe, 0xdc, 0xba, 0x98, 0x76}, "02:fe:dc:ba:98:76"},

		// Bit 40 alone, all but it, and all.
		{0x010000000000, true, true, false, [6]byte{1}, "01:00:00:00:00:00"},
		{0xfeffffffffff, true, false, false, [6]byte{0xfe, 255, 255, 255, 255, 255}, "fe:ff:ff:ff:ff:ff"},
		{0xffffffffffff, true, true, false, [6]byte{255, 255, 255, 255, 255, 255}, "ff:ff:ff:ff:ff:ff"},

		// Just below, in and just above those kept back.
		{0x0180c1fffffe, true, true, false, [6]byte{0x01, 0x80, 0xc1, 0xff, 0xff, 0xfe}, "01:80:c1:ff:ff:fe"},
		{0x0180c1ffffff, true, true, false, [6]byte{0x01, 0x80, 0xc1, 0xff, 0xff, 0xff}, "01:80:c1:ff:ff:ff"},
		{0x0180c2000000, true, true, true, [6]byte{0x01, 0x80, 0xc2, 0, 0, 0}, "01:80:c2:00:00:00"},
		{0x0180c2000001, true, true, true, [6]byte{0x01, 0x80, 0xc2, 0, 0, 1}, "01:80:c2:00:00:01"},
		{0x0180c200000e, true, true, true, [6]byte{0x01, 0x80, 0xc2, 0, 0, 14}, "01:80:c2:00:00:0e"},
		{0x0180c200000f, true, true, true, [6]byte{0x01, 0x80, 0xc2, 0, 0, 15}, "01:80:c2:00:00:0f"},
		{0x0180c2000010, true, true, false, [6]byte{0x01, 0x80, 0xc2, 0, 0, 16}, "01:80:c2:00:00:10"},
		{0x0180c2000100, true, true, false, [6]byte{0x01, 0x80, 0xc2, 0, 1, 0}, "01:80:c2:00:01:00"},
		{0x0080c2000000, true, false, false, [6]byte{0x00, 0x80, 0xc2, 0, 0, 0}, "00:80:c2:00:00:00"},

		// What is no address.
		{1 << 48, false, false, false, [6]byte{}, ""},
		{1<<48 + 1, false, false, false, [6]byte{0, 0, 0, 0, 0, 1}, ""},
		{1<<48 | 1<<40, false, false, false, [6]byte{1}, ""},
		{1<<48 | 0x0180c2000003, false, false, false, [6]byte{0x01, 0x80, 0xc2, 0, 0, 3}, ""},
		{1<<63 | 0x0180c200000f, false, false, false, [6]byte{0x01, 0x80, 0xc2, 0, 0, 15}, ""},
		{0xff01020304050607, false, false, false, [6]byte{2, 3, 4, 5, 6, 7}, ""},
		{math.MaxUint64, false, false, false, [6]byte{255, 255, 255, 255, 255, 255}, ""},
	}
}

// expectForm asks that s is nobody's Text.
func expectForm(t *testing.T, s string) {
	t.Helper()
	if a, errno := mac.Parse(s); a != 0 || errno != api.ErrForm {
		t.Errorf("Parse(%q) is %x, %v", s, a, errno)
	}
}

// P9.1, P9.2: what is told of numbers, as written out.
func TestKnown(t *testing.T) {
	for _, k := range knowns() {
		if mac.Good(k.a) != k.good || mac.Group(k.a) != k.group || mac.Kept(k.a) != k.kept {
			t.Errorf("%x: %v, %v, %v", k.a, mac.Good(k.a), mac.Group(k.a), mac.Kept(k.a))
		}
		if b := mac.Bytes(k.a); b != k.b {
			t.Errorf("Bytes(%x) is %x", k.a, b)
		}
		if s := mac.Text(k.a); s != k.s {
			t.Errorf("Text(%x) is %q", k.a, s)
		}
		if a, errno := mac.Of(k.b[:]...); a != k.a%(1<<48) || errno != api.OK {
			t.Errorf("Of(%x) is %x, %v", k.b, a, errno)
		}
		if !k.good {
			continue
		}
		if a, errno := mac.Parse(k.s); a != k.a || errno != api.OK {
			t.Errorf("Parse(%q) is %x, %v", k.s, a, errno)
		}
	}
}

// P9.1: each bit alone, and all bits but one.
func TestEachBit(t *testing.T) {
	for i := range 64 {
		alone := uint64(1) << i
		if mac.Good(alone) != (i < 48) || mac.Group(alone) != (i == 40) || mac.Kept(alone) {
			t.Errorf("bit %d: %v, %v, %v", i, mac.Good(alone), mac.Group(alone), mac.Kept(alone))
		}
		var b [6]byte
		if i < 48 {
			b[5-i/8] = 1 << (i % 8)
		}
		if got := mac.Bytes(alone); got != b {
			t.Errorf("bit %d: %x", i, got)
		}
		but := uint64(math.MaxUint64) ^ alone
		if mac.Good(but) || mac.Group(but) || mac.Kept(but) || mac.Text(but) != "" {
			t.Errorf("all but bit %d: told of what is no address", i)
		}
		if i >= 48 {
			continue
		}
		but &= 1<<48 - 1
		if !mac.Good(but) || mac.Group(but) != (i != 40) || mac.Kept(but) {
			t.Errorf("48 bits but bit %d: %v, %v, %v", i, mac.Good(but), mac.Group(but), mac.Kept(but))
		}
	}
}

// P9.1: sixteen addresses are kept back; one with any other bit is not.
func TestKept(t *testing.T) {
	for low := range uint64(16) {
		a := 0x0180c2000000 | low
		if !mac.Kept(a) || !mac.Group(a) || !mac.Good(a) {
			t.Errorf("%x is not kept back", a)
		}
		for i := 4; i < 64; i++ {
			if other := a ^ 1<<i; mac.Kept(other) {
				t.Errorf("%x is kept back", other)
			}
		}
	}
}

// P9.1: six bytes are an address, whichever they are; no other count is.
func TestOf(t *testing.T) {
	for n := range 20 {
		b := slices.Repeat([]byte{0x0a}, n)
		a, errno := mac.Of(b...)
		if n == 6 && (a != 0x0a0a0a0a0a0a || errno != api.OK) {
			t.Errorf("six bytes: %x, %v", a, errno)
		}
		if n != 6 && (a != 0 || errno != api.ErrForm) {
			t.Errorf("%d bytes: %x, %v", n, a, errno)
		}
	}
	if a, errno := mac.Of(); a != 0 || errno != api.ErrForm {
		t.Error("no bytes:", a, errno)
	}
	if a, errno := mac.Of(make([]byte, 0, 6)...); a != 0 || errno != api.ErrForm {
		t.Error("room for six bytes:", a, errno)
	}
	if a, errno := mac.Of(make([]byte, 1<<16+6)...); a != 0 || errno != api.ErrForm {
		t.Error("many bytes:", a, errno)
	}
	if a, errno := mac.Of(1, 2, 3, 4, 5, 6); a != 0x010203040506 || errno != api.OK {
		t.Errorf("bytes one by one: %x, %v", a, errno)
	}
}

// P9.1: the bytes handed in stay as they are, with those behind them.
func TestOfChangesNothing(t *testing.T) {
	b := []byte{1, 2, 3, 4, 5, 6, 7, 8, 9}
	before := slices.Clone(b)
	mac.Of(b[:6]...)
	mac.Of(b[:5]...)
	mac.Of(b...)
	if !slices.Equal(b, before) {
		t.Error(b)
	}
}

// P9.2: every sign at every place, in place of the one that stands there.
func TestParseEachSign(t *testing.T) {
	const digits = "0123456789abcdef"
	for _, base := range []string{"00:00:00:00:00:00", "ff:ff:ff:ff:ff:ff", "01:80:c2:00:00:0f", "9a:bc:de:f0:12:34"} {
		for at := range len(base) {
			for c := range 256 {
				s := base[:at] + string([]byte{byte(c)}) + base[at+1:]
				colon := at%3 == 2
				if colon && c != ':' || !colon && !strings.Contains(digits, string(rune(c))) {
					expectForm(t, s)
					continue
				}
				var b [6]byte
				for i := range b {
					fmt.Sscanf(s[3*i:3*i+2], "%02x", &b[i])
				}
				want := uint64(b[0])<<40 | uint64(b[1])<<32 | uint64(b[2])<<24 | uint64(b[3])<<16 | uint64(b[4])<<8 | uint64(b[5])
				if a, errno := mac.Parse(s); a != want || errno != api.OK {
					t.Errorf("Parse(%q) is %x, %v, not %x", s, a, errno, want)
				}
				if mac.Text(want) != s {
					t.Errorf("Text(%x) is %q, not %q", want, mac.Text(want), s)
				}
			}
		}
	}
}

// P9.2: texts that are nobody's.
func TestParseWrong(t *testing.T) {
	const good = "0a:1b:2c:3d:4e:5f"
	for i := range len(good) {
		expectForm(t, good[:i])
		expectForm(t, good[i+1:])
		expectForm(t, good[:i]+good[i+1:])
		for _, c := range []string{":", "0", "a", " ", "\x00", "\n"} {
			expectForm(t, good[:i]+c+good[i:])
		}
		if good[i] >= 'a' {
			expectForm(t, good[:i]+strings.ToUpper(good[i:i+1])+good[i+1:])
		}
	}
	for _, s := range []string{
		"", " ", ":", ":::::", "0", "00", "0a1b2c3d4e5f", "0a-1b-2c-3d-4e-5f", "0a.1b.2c.3d.4e.5f",
		good + "0", good + ":", good + " ", good + "\n", good + "\x00", " " + good, "0" + good, ":" + good, good + ":60", good + good,
		"a:1b:2c:3d:4e:5f", "a:1b:2c:3d:4e:5f ", " a:1b:2c:3d:4e:5f", "0a:1b:2c:3d:4e:5", "0a:1b:2c:3d:4e", "0a:1b:2c:3d:4e::", "0a1:b:2c:3d:4e:5f", "0a::b:2c:3d:4e:5f",
		"0A:1B:2C:3D:4E:5F", "+a:1b:2c:3d:4e:5f", "-0:1b:2c:3d:4e:5f", "0x:1b:2c:3d:4e:5f", "0_:1b:2c:3d:4e:5f", "0g:1b:2c:3d:4e:5f", "0a:1b:2c:3d:4e:5`", "0a:1b:2c:3d:4e:/f",
		strings.Repeat(" ", 17), strings.Repeat("0", 17), strings.Repeat(":", 17), strings.Repeat("\x00", 17), strings.Repeat("\xff", 17),
		"\xc0\xb0:1b:2c:3d:4e:5f", "0a:1b:2c:3d:4e:\xe2\x82", "0a\xff1b:2c:3d:4e:5f", "0a:1b:2c:3d:4e:5\xff", "\x80a:1b:2c:3d:4e:5f",
		"٠a:1b:2c:3d:4e:f", "０a:1b:2c:3d:4e:5f", "0a：1b:2c:3d:4e:5f", "é:1b:2c:3d:4e:5f", strings.Repeat("00:", 1<<16),
	} {
		expectForm(t, s)
	}
}

// P9.2: what is no address has no Text, and no Text is no address.
func TestNone(t *testing.T) {
	for i := 48; i < 64; i++ {
		for _, low := range []uint64{0, 1, 1 << 40, 0x0180c2000000, 1<<48 - 1} {
			a := uint64(1)<<i | low
			if mac.Good(a) || mac.Group(a) || mac.Kept(a) || mac.Text(a) != "" {
				t.Errorf("%x: %v, %v, %v, %q", a, mac.Good(a), mac.Group(a), mac.Kept(a), mac.Text(a))
			}
		}
	}
	expectForm(t, mac.Text(1<<48))
}

// P9.3: there and back is the same, as a text and as bytes.
func TestThereAndBack(t *testing.T) {
	play := rand.New(rand.NewSource(9))
	var all []uint64
	for _, k := range knowns() {
		all = append(all, k.a)
	}
	for i := range 64 {
		all = append(all, 1<<i, 1<<i-1, math.MaxUint64>>i, math.MaxUint64<<i)
	}
	for range 20000 {
		all = append(all, play.Uint64()>>play.Intn(64))
	}
	for _, a := range all {
		b := mac.Bytes(a)
		var wide [8]byte
		binary.BigEndian.PutUint64(wide[:], a)
		if !slices.Equal(b[:], wide[2:]) {
			t.Fatalf("Bytes(%x) is %x", a, b)
		}
		back, errno := mac.Of(b[:]...)
		if back != a&(1<<48-1) || errno != api.OK || mac.Bytes(back) != b {
			t.Fatalf("Of(Bytes(%x)) is %x, %v", a, back, errno)
		}
		s := mac.Text(a)
		if a >= 1<<48 {
			if s != "" || mac.Good(a) {
				t.Fatalf("Text(%x) is %q", a, s)
			}
			continue
		}
		if want := fmt.Sprintf("%02x:%02x:%02x:%02x:%02x:%02x", b[0], b[1], b[2], b[3], b[4], b[5]); s != want {
			t.Fatalf("Text(%x) is %q", a, s)
		}
		if back, errno := mac.Parse(s); back != a || errno != api.OK {
			t.Fatalf("Parse(%q) is %x, %v", s, back, errno)
		}
	}
}

// isText tells by its signs alone whether s is some address's Text.
func isText(s string) bool {
	if len(s) != 17 {
		return false
	}
	for i := range len(s) {
		digit := s[i] >= '0' && s[i] <= '9' || s[i] >= 'a' && s[i] <= 'f'
		if i%3 == 2 && s[i] != ':' || i%3 != 2 && !digit {
			return false
		}
	}
	return true
}

// P9.2, P9.3: a text is an address if, and only if, it is that address's Text.
func TestParsePlay(t *testing.T) {
	play := rand.New(rand.NewSource(92))
	const signs = "0123456789abcdefABCDEFgG::::  -"
	good := 0
	for range 200000 {
		b := []byte(mac.Text(play.Uint64() >> 16))
		for range play.Intn(3) {
			b[play.Intn(len(b))] = signs[play.Intn(len(signs))]
		}
		s := string(b)
		if !isText(s) {
			expectForm(t, s)
			continue
		}
		good++
		if a, errno := mac.Parse(s); errno != api.OK || mac.Text(a) != s {
			t.Fatalf("Parse(%q) is %x, %v", s, a, errno)
		}
	}
	if good < 1000 {
		t.Error("only so many texts were addresses:", good)
	}
}
