package sum

import (
	"hash/crc32"
	"strings"
	"testing"
)

// samples are texts of several lengths, with all bytes among them.
func samples() []string {
	var all []byte
	for b := range 256 {
		all = append(all, byte(b))
	}
	return []string{"", "\x00", "\xff", "a", "abc", "\x00\x00\x00\x00", "\xff\xff\xff\xff", "123456789", string(all), strings.Repeat("quadriga", 100)}
}

// plain is the sum as the document words it, bit by bit.
func plain(s string) uint32 {
	register := ^uint32(0)
	for i := range len(s) {
		for bit := range 8 {
			out := register&1 ^ uint32(s[i]>>bit)&1
			register >>= 1
			if out == 1 {
				register ^= 0xedb88320
			}
		}
	}
	return ^register
}

// P2.1: the sum is CRC-32, of all texts one behind the other.
func TestOf(t *testing.T) {
	if n := Of("123456789"); n != 0xcbf43926 {
		t.Errorf("Of: %x", n)
	}
	if n := Of(); n != 0 {
		t.Errorf("Of none: %x", n)
	}
	for b := range 256 {
		s := string([]byte{byte(b)})
		if n := Of(s); n != plain(s) {
			t.Errorf("Of(%q): %x", s, n)
		}
	}
	for _, s := range samples() {
		if n := Of(s); n != plain(s) || n != crc32.ChecksumIEEE([]byte(s)) {
			t.Errorf("Of(%q): %x", s, n)
		}
		for at := range len(s) {
			if n := Of(s[:at], "", s[at:]); n != Of(s) {
				t.Errorf("Of(%q) in two, at %d: %x", s, at, n)
			}
		}
	}
}

// P2.1: laid, the lowest byte is the first.
func TestLaid(t *testing.T) {
	for _, c := range []struct {
		l    []string
		laid string
	}{
		{nil, "\x00\x00\x00\x00"},
		{[]string{""}, "\x00\x00\x00\x00"},
		{[]string{"123456789"}, "\x26\x39\xf4\xcb"},
		{[]string{"1234", "", "56789"}, "\x26\x39\xf4\xcb"},
	} {
		if s := Laid(c.l...); s != c.laid {
			t.Errorf("Laid(%q): %x", c.l, s)
		}
		if s := Seal(c.l...); s != strings.Join(c.l, "")+c.laid {
			t.Errorf("Seal(%q): %x", c.l, s)
		}
	}
}

// P2.1: what was sealed is opened.
func TestSealOpen(t *testing.T) {
	for _, s := range samples() {
		if got, ok := Open(Seal(s)); got != s || !ok {
			t.Errorf("Open of %q: %q, %t", s, got, ok)
		}
		if got, ok := Open(Seal(s, "x", s)); got != s+"x"+s || !ok {
			t.Errorf("Open of %q twice: %q, %t", s, got, ok)
		}
	}
}

// P2.1: what has fewer than four bytes or isn't sealed is not opened.
func TestOpenRefused(t *testing.T) {
	whole := Seal("abc")
	for _, s := range []string{"", "a", "\x00\x00\x00", "abcd", "\x00\x00\x00\x01", whole[1:], whole[:len(whole)-1], whole + "\x00", "abc\x35\x24\x41\xc2", "123456789\xcb\xf4\x39\x26"} {
		if got, ok := Open(s); got != "" || ok {
			t.Errorf("Open(%q): %q, %t", s, got, ok)
		}
		if Good(s) || Good(whole, s) || Good(s, whole) {
			t.Errorf("Good(%q)", s)
		}
	}
}

// P2.1: each of the texts must be sealed.
func TestGood(t *testing.T) {
	if !Good() || !Good(Seal()) || !Good("\x00\x00\x00\x00") || !Good(Seal("a"), Seal("b", "c"), Seal()) {
		t.Error("sealed ones aren't good")
	}
	if Good(Seal("a"), "b", Seal("c")) {
		t.Error("one that isn't sealed is good")
	}
	if whole := Seal("abcd"); Good(whole[:4], whole[4:]) {
		t.Error("pieces are good")
	}
}

// turned is a text with a burst's bits turned, from one of its bits on (the lowest of a byte first).
func turned(s string, from int, burst uint32) string {
	b := []byte(s)
	for i := range 32 {
		if at := from + i; burst>>i&1 == 1 && at < 8*len(b) {
			b[at/8] ^= 1 << (at % 8)
		}
	}
	return string(b)
}

// bursts are turns of bits within 32: each begins with a bit that is turned.
func bursts() []uint32 {
	l := []uint32{1, 0xffffffff, 0x80000001, 0xedb88321, 0xdb710641, 0x04c11db7, 0x82608edb}
	for i := 1; i < 32; i++ {
		l = append(l, 1|1<<i)
	}
	n := uint32(1)
	for range 100 {
		n = n*1664525 + 1013904223
		l = append(l, n|1)
	}
	return l
}

// P2.2: a burst anywhere is told.
func TestBursts(t *testing.T) {
	for _, s := range []string{"", "a", "123456789", strings.Repeat("\x00", 30), strings.Repeat("\xff", 30), strings.Repeat("quadriga", 8)} {
		whole := Seal(s)
		for from := range 8 * len(whole) {
			for _, burst := range bursts() {
				spoilt := turned(whole, from, burst)
				if _, ok := Open(spoilt); ok || Good(spoilt) {
					t.Fatalf("%q, burst %x at %d: still sealed", s, burst, from)
				}
				if from < 8*len(s) && Of(turned(s, from, burst)) == Of(s) {
					t.Fatalf("%q, burst %x at %d: the same sum", s, burst, from)
				}
			}
		}
	}
}
