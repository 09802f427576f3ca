package page

import (
	"hash/crc32"
	"math/rand"
	"slices"
	"strings"
	"testing"

	"quadriga/api"
)

// sealed is a text with 00 behind up to 252 bytes, and the sum behind that, the lowest byte first.
func sealed(s string) string {
	s += strings.Repeat("\x00", 252-len(s))
	n := crc32.ChecksumIEEE([]byte(s))
	return s + string([]byte{byte(n), byte(n >> 8), byte(n >> 16), byte(n >> 24)})
}

// bytesOf is the bytes of a page, laid by hand, whether it is right or not.
func bytesOf(p api.Page) string {
	s := []byte{byte(p.No)}
	for i := range 8 {
		s = append(s, byte(uint64(p.Gsn)>>(56-8*i)))
	}
	s = append(s, byte(len(p.Cells)))
	for _, c := range p.Cells {
		s = append(append(s, byte(len(c.Key))), c.Key...)
		s = append(append(s, byte(len(c.Val))), c.Val...)
	}
	return sealed(string(s))
}

// wantUnread holds that bytes are no page's.
func wantUnread(t *testing.T, s string) {
	t.Helper()
	if p, ok := Read(s); ok || p.No != 0 || p.Gsn != 0 || len(p.Cells) != 0 {
		t.Errorf("Read(%x): %v, %t", s, p, ok)
	}
}

// P11.2: a page's bytes, part by part.
func TestLaid(t *testing.T) {
	p := api.Page{No: 3, Gsn: 0x0102030405060708, Cells: cells("a", "xyz", "bc", "")}
	want := sealed("\x03" + "\x01\x02\x03\x04\x05\x06\x07\x08" + "\x02" + "\x01a" + "\x03xyz" + "\x02bc" + "\x00")
	if got := Laid(p); got != want || len(got) != 256 {
		t.Errorf("%x, not %x", got, want)
	}
	if got := Laid(api.Page{}); got != sealed("") || strings.Trim(got, "\x00") == "" {
		t.Errorf("the empty page's: %x", got)
	}
}

// P11.2: pages up to the edges are laid, and read as they were; others aren't laid.
func TestThereAndBack(t *testing.T) {
	for _, p := range rightPages() {
		s := Laid(p)
		if s != bytesOf(p) || len(s) != 256 {
			t.Errorf("Laid(%v): %x", p, s)
		}
		if got, ok := Read(s); !ok || got.No != p.No || got.Gsn != p.Gsn || !slices.Equal(got.Cells, p.Cells) {
			t.Errorf("Read of %v: %v, %t", p, got, ok)
		}
	}
	for _, p := range wrongPages() {
		if s := Laid(p); s != "" {
			t.Errorf("Laid(%v): %x", p, s)
		}
	}
}

// P11.2: any right pages are read as they were laid.
func TestThereAndBackOfMany(t *testing.T) {
	r := rand.New(rand.NewSource(1))
	for range 2000 {
		p := api.Page{No: r.Intn(64), Gsn: r.Intn(1 << 62)}
		for range r.Intn(12) {
			key, val := make([]byte, 1+r.Intn(8)), make([]byte, r.Intn(17))
			r.Read(key)
			r.Read(val)
			if next, errno := Set(p, string(key), has(string(val)), p.Gsn+1); errno == api.OK {
				p = next
			}
		}
		if got, ok := Read(Laid(p)); !ok || !Same(got, p) {
			t.Fatalf("%v: %v, %t", p, got, ok)
		}
	}
}

// P11.2: no page is read of bytes that are sealed as a page's are, and tell one that isn't right, or have other than 00 behind it.
func TestReadWrongPages(t *testing.T) {
	for _, p := range wrongPages() {
		long := p.No < 0 || p.No > 255
		for _, c := range p.Cells {
			long = long || len(c.Key) > 255 || len(c.Val) > 255
		}
		if !long {
			wantUnread(t, bytesOf(p))
		}
	}
	number, one := strings.Repeat("\x00", 8), "\x01\x01a\x01x"
	for _, s := range []string{
		"\x01" + number + "\x00\x01",
		"\x01" + number + "\x00" + strings.Repeat("\x00", 241) + "\x01",
		"\x01" + number + one + "\x00\x01",
		"\x01" + number + "\x01\x01a\xffx",
		"\x01" + number + "\x01\xffa\x01x",
		"\x01" + number + "\xff" + strings.Repeat("\x01a\x01x", 60),
		"\x01" + number + "\xff",
		"\x01" + number + "\x02" + one[1:],
		"\x01" + strings.Repeat("\xff", 8) + one,
		"\x01\x80" + number[1:] + one,
		"\x01\x40" + number[1:] + one,
		"\x40" + number + one,
		strings.Repeat("\xff", 252),
		strings.Repeat("\x01", 252),
	} {
		wantUnread(t, sealed(s))
	}
	if p, ok := Read(sealed("\x3f\x3f" + strings.Repeat("\xff", 7) + one)); !ok || p.No != 63 || p.Gsn != lastGsn {
		t.Errorf("the one at the edge: %v, %t", p, ok)
	}
}

// P11.2: no page is read of bytes that are too few, too many, or turned at a bit.
func TestReadSpoilt(t *testing.T) {
	for _, p := range []api.Page{{}, {No: 63, Gsn: lastGsn, Cells: longest()}, {No: 2, Gsn: 9, Cells: cells("a", "x")}} {
		s := Laid(p)
		for size := range len(s) {
			wantUnread(t, s[:size])
			wantUnread(t, s[size+1:])
		}
		wantUnread(t, s+"\x00")
		wantUnread(t, "\x00"+s)
		wantUnread(t, s+s)
		for bit := range 8 * len(s) {
			b := []byte(s)
			b[bit/8] ^= 1 << (bit % 8)
			wantUnread(t, string(b))
		}
	}
	wantUnread(t, strings.Repeat("\x00", 256))
	wantUnread(t, strings.Repeat("\xff", 256))
	short := "\x01\x00\x00\x00\x00\x00\x00\x00\x05\x00"
	n := crc32.ChecksumIEEE([]byte(short))
	wantUnread(t, short+string([]byte{byte(n), byte(n >> 8), byte(n >> 16), byte(n >> 24)}))
}

// Rule 4: the cells that are read are new each time.
func TestReadIsNew(t *testing.T) {
	s := Laid(api.Page{No: 2, Gsn: 9, Cells: eight()})
	p, _ := Read(s)
	for i := range p.Cells {
		p.Cells[i] = api.Cell{}
	}
	if again, ok := Read(s); !ok || !slices.Equal(again.Cells, eight()) {
		t.Errorf("%v", again)
	}
}

// Every call ends and none panics, whatever bytes it is given; what is read has just these bytes.
func FuzzRead(f *testing.F) {
	for _, p := range rightPages() {
		f.Add(Laid(p))
	}
	f.Add(sealed("\x01" + strings.Repeat("\x00", 8) + "\xff"))
	f.Fuzz(func(t *testing.T, s string) {
		wantBack(t, s)
		// Sealed anew: so that what is changed isn't refused by the sum alone.
		if len(s) >= 252 {
			wantBack(t, sealed(s[:252]))
		}
	})
}

// wantBack holds that bytes are a page's, laid once more, or nothing is read of them.
func wantBack(t *testing.T, s string) {
	t.Helper()
	p, ok := Read(s)
	if ok && (!Right(p) || bytesOf(p) != s) || !ok && !Same(p, api.Page{}) {
		t.Fatalf("Read(%x): %v, %t", s, p, ok)
	}
}
