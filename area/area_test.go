package area

import (
	"math"
	"math/rand"
	"slices"
	"strings"
	"testing"

	"quadriga/api"
	"quadriga/device"
)

// bytesFrom is a text of so many bytes, no two neighbours the same, that begins with a byte.
func bytesFrom(first, size int) string {
	b := make([]byte, size)
	for i := range b {
		b[i] = byte(first + 7*i)
	}
	return string(b)
}

// want holds an error's number against the one that is asked.
func want(t *testing.T, what string, got, errno api.Errno) {
	t.Helper()
	if got != errno {
		t.Errorf("%s: %d, not %d", what, got, errno)
	}
}

// wantGet holds the bytes from a place on against what is asked.
func wantGet(t *testing.T, a *Area, at int, text string) {
	t.Helper()
	if s, errno := a.Get(at, len(text)); s != text || errno != api.OK {
		t.Errorf("Get(%d, %d): %q, %d, not %q", at, len(text), s, errno, text)
	}
}

// all is all the bytes of a device, as they are read.
func all(d *device.Device) string {
	var b strings.Builder
	for i := range d.Sectors() {
		s, _ := d.Read(i)
		b.WriteString(s)
	}
	return b.String()
}

// P6.1: an area lies on its device's sectors; without such ones there is none.
func TestNew(t *testing.T) {
	d := device.New(nil, 5)
	for from := -2; from <= 7; from++ {
		for sectors := -2; sectors <= 7; sectors++ {
			a := New(d, from, sectors)
			right := from >= 0 && sectors >= 1 && from+sectors <= 5
			if right != (a != nil) {
				t.Errorf("New(%d, %d): %t", from, sectors, a != nil)
			}
			if right && (a.Len() != 64*sectors || a.Device != d) {
				t.Errorf("New(%d, %d): Len: %d", from, sectors, a.Len())
			}
		}
	}
	for _, n := range []int{math.MinInt, math.MinInt + 1, math.MaxInt - 1, math.MaxInt} {
		for _, m := range []int{math.MinInt, -1, 0, 1, 5, math.MaxInt} {
			if New(d, n, m) != nil || New(d, m, n) != nil {
				t.Errorf("New of %d and %d: there is one", n, m)
			}
		}
	}
	if New(nil, 0, 1) != nil || New(nil, 0, 0) != nil || New(nil, -1, 1) != nil {
		t.Error("New on no device: there is one")
	}
	if a := New(device.New(nil, 4096), 0, 4096); a.Len() != 262144 {
		t.Errorf("Len: %d", a.Len())
	}
}

// P6.1: an area embeds its device, and answers for it.
func TestAreaHasItsDevice(t *testing.T) {
	p := &device.Power{}
	a := New(device.New(p, 5), 2, 2)
	if a.Sectors() != 5 || !a.On() || a.Uses() != 0 {
		t.Error("Sectors, On, Uses")
	}
	want(t, "Write", a.Write(2, "x"), api.OK)
	wantGet(t, a, 0, "x\x00")
	if !slices.Equal(a.Loose(), []int{2}) || a.Lasts(2)[0] != 0 {
		t.Error("Loose, Lasts")
	}
	want(t, "Sync", a.Sync(), api.OK)
	a.Arm(0)
	want(t, "Sync", a.Sync(), api.ErrOff)
	if p.On() || a.On() || p.Uses() != 3 {
		t.Error("On, Uses")
	}
	a.Crash()
	want(t, "Put", a.Put(3, "y"), api.OK)
	wantGet(t, a, 64, "y")
}

// P6.1: any bytes, from any place, going round.
func TestGet(t *testing.T) {
	d := device.New(nil, 5)
	ring := bytesFrom(1, 128)
	for i := range 5 {
		d.Put(i, strings.Repeat("#", 64))
	}
	d.Put(2, ring[:64])
	d.Put(3, ring[64:])
	a := New(d, 2, 2)
	for at := range 300 {
		for size := range 129 {
			wantGet(t, a, at, strings.Repeat(ring, 4)[at:at+size])
		}
	}
	if a.Uses() != 0 {
		t.Errorf("Get is no use: %d", a.Uses())
	}
}

// P6.1: far places: 2^62 is the last one.
func TestFarPlaces(t *testing.T) {
	for _, sectors := range []int{1, 2, 3, 7} {
		a := New(device.New(nil, 8), 1, sectors)
		ring := bytesFrom(1, a.Len())
		want(t, "Set", a.Set(0, ring), api.OK)
		for _, at := range []int{1 << 40, 4611686018427387903, 4611686018427387904} {
			rest := at % a.Len()
			wantGet(t, a, at, ring[rest:]+ring[:rest])
			want(t, "Set", a.Set(at, "\xfe"), api.OK)
			wantGet(t, a, rest, "\xfe")
			want(t, "Set", a.Set(0, ring), api.OK)
		}
		for _, at := range []int{4611686018427387905, math.MaxInt} {
			wantWrong(t, a, at, 1)
			wantWrong(t, a, at, 0)
		}
	}
}

// wantWrong holds that so many bytes of a place can be neither got nor set, and that nothing is used or changed.
func wantWrong(t *testing.T, a *Area, at, size int) {
	t.Helper()
	ahead, uses := all(a.Device), a.Uses()
	s, errno := a.Get(at, size)
	want(t, "Get", errno, api.ErrArg)
	if s != "" {
		t.Errorf("Get(%d, %d): %q", at, size, s)
	}
	if size >= 0 && size < 1<<20 {
		want(t, "Set", a.Set(at, bytesFrom(1, size)), api.ErrArg)
		want(t, "Set", a.Set(at, "", bytesFrom(1, size/2), bytesFrom(1, size-size/2)), api.ErrArg)
	}
	if all(a.Device) != ahead || a.Uses() != uses {
		t.Errorf("Set(%d) of %d bytes changed something", at, size)
	}
}

// P6.1, P6.2: places and sizes that may not be.
func TestWrong(t *testing.T) {
	a := New(device.New(nil, 5), 2, 2)
	a.Set(3, "abc")
	for _, at := range []int{math.MinInt, -128, -1} {
		wantWrong(t, a, at, 0)
		wantWrong(t, a, at, 1)
	}
	for _, size := range []int{129, 130, 192, 1000, math.MaxInt, -1, -64, math.MinInt} {
		wantWrong(t, a, 0, size)
		wantWrong(t, a, 127, size)
	}
	s, errno := a.Get(4611686018427387904, math.MaxInt)
	want(t, "Get", errno, api.ErrArg)
	if s != "" {
		t.Errorf("Get: %q", s)
	}
}

// P6.1, P6.2: with the power off ErrOff is told, but for arguments that may not be; of no bytes, too.
func TestOff(t *testing.T) {
	a := New(device.New(nil, 5), 2, 2)
	a.Set(3, "abc")
	a.Arm(0)
	a.Sync()
	for _, size := range []int{0, 1, 128} {
		s, errno := a.Get(0, size)
		want(t, "Get", errno, api.ErrOff)
		if s != "" {
			t.Errorf("Get: %q", s)
		}
		want(t, "Set", a.Set(0, bytesFrom(1, size)), api.ErrOff)
	}
	want(t, "Set", a.Set(0), api.ErrOff)
	wantWrong(t, a, -1, 1)
	wantWrong(t, a, 0, 129)
	wantWrong(t, a, 0, -1)
	if a.Blank() {
		t.Error("Blank, and off")
	}
	if a.Uses() != 2 {
		t.Errorf("Uses: %d", a.Uses())
	}
}

// P6.2: the document's example.
func TestExample(t *testing.T) {
	a := New(device.New(nil, 1), 0, 1)
	want(t, "Set", a.Set(62, "abc"), api.OK)
	wantGet(t, a, 0, "c"+strings.Repeat("\x00", 61)+"ab")
	if a.Uses() != 2 {
		t.Errorf("Uses: %d: the sector is written twice", a.Uses())
	}
}

// P6.2: the texts are the bytes from a place on, going round; all other bytes of the device stay.
func TestSet(t *testing.T) {
	text := bytesFrom(3, 128)
	for at := range 260 {
		for _, size := range []int{0, 1, 2, 63, 64, 65, 66, 100, 127, 128} {
			d := device.New(nil, 4)
			a := New(d, 1, 2)
			for i := range 4 {
				d.Put(i, strings.Repeat("#", 64))
			}
			want(t, "Set", a.Set(at, text[:size/3], "", text[size/3:size]), api.OK)
			ring := []byte(strings.Repeat("#", 128))
			for i := range size {
				ring[(at+i)%128] = text[i]
			}
			if side := strings.Repeat("#", 64); all(d) != side+string(ring)+side {
				t.Fatalf("Set(%d) of %d bytes: %q", at, size, all(d))
			}
			wantGet(t, a, at, text[:size])
		}
	}
}

// P6.2: one write a sector that is touched, in the order of the places, the first one twice where they go round to it again; none without bytes.
func TestUses(t *testing.T) {
	for _, c := range []struct {
		at, size int
		order    []int
	}{
		{0, 0, nil},
		{63, 0, nil},
		{0, 1, []int{2}},
		{63, 1, []int{2}},
		{63, 2, []int{2, 3}},
		{64, 64, []int{3}},
		{64, 65, []int{3, 4}},
		{128, 65, []int{4, 2}},
		{0, 192, []int{2, 3, 4}},
		{64, 192, []int{3, 4, 2}},
		{1, 191, []int{2, 3, 4}},
		{1, 192, []int{2, 3, 4, 2}},
		{191, 192, []int{4, 2, 3, 4}},
		{191, 129, []int{4, 2, 3}},
		{191, 130, []int{4, 2, 3, 4}},
		{192 + 100, 100, []int{3, 4, 2}},
	} {
		// So many uses are let through; then those sectors, and no others, were written.
		for n := range len(c.order) + 1 {
			d := device.New(nil, 6)
			a := New(d, 2, 3)
			a.Arm(n)
			errno := a.Set(c.at, strings.Repeat("x", c.size))
			written := slices.Sorted(slices.Values(c.order[:n]))
			if !slices.Equal(d.Loose(), slices.Compact(written)) {
				t.Errorf("Set(%d) of %d bytes, off behind %d: %v were written, not %v", c.at, c.size, n, d.Loose(), written)
			}
			if n < len(c.order) {
				want(t, "Set", errno, api.ErrOff)
				continue
			}
			want(t, "Set", errno, api.OK)
			if a.Uses() != n {
				t.Errorf("Set(%d) of %d bytes: %d uses, not %d", c.at, c.size, a.Uses(), n)
			}
		}
	}
}

// P6.2: of a sector that is touched in part all is written: what was read of it stays, loose as it was or not.
func TestSetKeepsTheRest(t *testing.T) {
	d := device.New(nil, 2)
	d.Write(0, "lasting")
	d.Sync()
	d.Write(0, "loosely", "?")
	a := New(d, 0, 2)
	want(t, "Set", a.Set(2, "xx"), api.OK)
	wantGet(t, a, 0, "loxxely?\x00")
	if d.Lasts(0)[:9] != "lasting\x00\x00" {
		t.Errorf("Lasts: %q", d.Lasts(0))
	}
	d.Crash(0)
	wantGet(t, a, 0, "loxxely?\x00")
}

// P6.2: an error ends it: the first write of a sector that is come to twice stays.
func TestSetEndedTwice(t *testing.T) {
	a := New(device.New(nil, 1), 0, 1)
	a.Arm(1)
	want(t, "Set", a.Set(62, "abc"), api.ErrOff)
	a.Crash(0)
	wantGet(t, a, 0, strings.Repeat("\x00", 62)+"ab")
}

// P6.2: an area is blank where all its bytes are 00, as they are read, whatever lies beside it.
func TestBlank(t *testing.T) {
	d := device.New(nil, 4)
	d.Put(0, "#")
	d.Put(3, "#")
	a := New(d, 1, 2)
	if !a.Blank() {
		t.Error("not blank at first")
	}
	for at := range 128 {
		a.Set(at, "\x01")
		if a.Blank() {
			t.Fatalf("blank, with a byte at %d", at)
		}
		a.Set(at, "\x00")
		if !a.Blank() {
			t.Fatalf("not blank, without the byte at %d", at)
		}
	}
	a.Set(5, "\x80")
	a.Crash()
	if !a.Blank() || a.Uses() != 128*2+1 {
		t.Errorf("Blank: %t, Uses: %d", a.Blank(), a.Uses())
	}
}

// P6.2: what a nil area answers.
func TestNil(t *testing.T) {
	var a *Area
	if a.Len() != 0 || a.Blank() {
		t.Error("Len, Blank")
	}
	for _, at := range []int{-1, 0, 1} {
		s, errno := a.Get(at, 0)
		want(t, "Get", errno, api.ErrArg)
		if s != "" {
			t.Errorf("Get: %q", s)
		}
		want(t, "Set", a.Set(at), api.ErrArg)
		want(t, "Set", a.Set(at, "a"), api.ErrArg)
	}
}

// Rule 5: of an area that no maker answered nothing is promised, but that no call panics.
func TestNoMaker(t *testing.T) {
	lost := New(device.New(nil, 4), 1, 3)
	lost.Device = nil
	short := New(device.New(nil, 4), 1, 3)
	short.Device = device.New(nil, 2)
	for _, a := range []*Area{{}, {Device: device.New(nil, 1)}, lost, short} {
		a.Len()
		a.Blank()
		for _, size := range []int{0, 1, 64, 100} {
			a.Get(0, size)
			a.Get(63, size)
			a.Set(63, bytesFrom(1, size))
		}
		a.On()
		a.Crash()
	}
}

// Rule 4: texts that are handed in are neither changed nor kept.
func TestHandedIn(t *testing.T) {
	a := New(device.New(nil, 1), 0, 1)
	texts := []string{"ab", "cd", "ef"}
	a.Set(0, texts[:2]...)
	texts[0] = "x"
	wantGet(t, a, 0, "abcd\x00")
	if texts[1] != "cd" || texts[2] != "ef" {
		t.Errorf("Set changed its texts: %q", texts)
	}
}

// P6.1, P6.2: many calls, held against a plain list of bytes.
func TestAgainstBytes(t *testing.T) {
	for seed := range 100 {
		r := rand.New(rand.NewSource(int64(seed)))
		first, sectors := r.Intn(4), 1+r.Intn(4)
		a := New(device.New(nil, 8), first, sectors)
		ring := make([]byte, 64*sectors)
		for range 50 {
			at, text := r.Intn(1<<20), bytesFrom(r.Intn(256), r.Intn(len(ring)+1))
			cut := r.Intn(len(text) + 1)
			want(t, "Set", a.Set(at, text[:cut], text[cut:]), api.OK)
			for i := range len(text) {
				ring[(at+i)%len(ring)] = text[i]
			}
			wantGet(t, a, 0, string(ring))
			if t.Failed() {
				t.Fatalf("seed %d", seed)
			}
		}
	}
}
