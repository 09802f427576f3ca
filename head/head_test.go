package head

import (
	"hash/crc32"
	"math"
	"math/rand"
	"slices"
	"strings"
	"testing"

	"quadriga/api"
	"quadriga/device"
)

// sealedBytes is numbers, each laid in eight bytes, sealed, and 00 behind up to a sector: whatever the numbers are.
func sealedBytes(l ...uint64) string {
	var b []byte
	for _, n := range l {
		for i := range 8 {
			b = append(b, byte(n>>(56-8*i)))
		}
	}
	n := crc32.ChecksumIEEE(b)
	b = append(b, byte(n), byte(n>>8), byte(n>>16), byte(n>>24))
	return string(b) + strings.Repeat("\x00", 64-len(b))
}

// sectorOf is a head's sector, laid by hand.
func sectorOf(h Head) string {
	return sealedBytes(uint64(h.Seq), uint64(h.Epoch), uint64(h.Cut), uint64(h.Start), uint64(h.Mark))
}

// want holds an error's number against the one that is asked.
func want(t *testing.T, what string, got, errno api.Errno) {
	t.Helper()
	if got != errno {
		t.Errorf("%s: %d, not %d", what, got, errno)
	}
}

// wantLoad holds what is loaded against what is asked.
func wantLoad(t *testing.T, d *device.Device, at int, h Head, errno api.Errno) {
	t.Helper()
	if got, e := Load(d, at); got != h || e != errno {
		t.Errorf("Load(%d): %v, %d, not %v, %d", at, got, e, h, errno)
	}
}

// wantSave holds what is saved against what is asked.
func wantSave(t *testing.T, d *device.Device, at int, h, saved Head, errno api.Errno) {
	t.Helper()
	if got, e := Save(d, at, h); got != saved || e != errno {
		t.Errorf("Save(%d, %v): %v, %d, not %v, %d", at, h, got, e, saved, errno)
	}
}

// edges is heads that may be, each with a number at its edge.
func edges() []Head {
	return []Head{
		{},
		{Seq: 1},
		{Seq: 2147483647},
		{Epoch: 2147483647},
		{Cut: 4611686018427387903},
		{Start: 4611686018427387903},
		{Mark: 4611686018427387903},
		{2147483647, 2147483647, 4611686018427387903, 4611686018427387903, 4611686018427387903},
		{1, 2, 3, 4, 5},
	}
}

// wrongs is heads that may not be, each with one number beyond its edge.
func wrongs() []Head {
	var l []Head
	for _, n := range []int{math.MinInt, -1, 1 << 31, 1 << 32, 1 << 62, math.MaxInt} {
		l = append(l, Head{Seq: n}, Head{Epoch: n})
	}
	for _, n := range []int{math.MinInt, -1, 1 << 62, math.MaxInt} {
		l = append(l, Head{Cut: n}, Head{Start: n}, Head{Mark: n})
	}
	return l
}

// P7.1: a head's sector: five numbers of eight bytes, their sum, and 00 behind.
func TestLaid(t *testing.T) {
	laid := Laid(Head{Seq: 1, Epoch: 0x02030405, Cut: 258, Start: 6, Mark: 1<<62 - 1})
	numbers := "\x00\x00\x00\x00\x00\x00\x00\x01" + "\x00\x00\x00\x00\x02\x03\x04\x05" + "\x00\x00\x00\x00\x00\x00\x01\x02" + "\x00\x00\x00\x00\x00\x00\x00\x06" + "\x3f\xff\xff\xff\xff\xff\xff\xff"
	n := crc32.ChecksumIEEE([]byte(numbers))
	if asked := numbers + string([]byte{byte(n), byte(n >> 8), byte(n >> 16), byte(n >> 24)}) + strings.Repeat("\x00", 20); laid != asked {
		t.Errorf("%x, not %x", laid, asked)
	}
}

// P7.1: heads up to the edges are laid and read as they were; beyond them they are neither.
func TestEdges(t *testing.T) {
	for _, h := range edges() {
		s := Laid(h)
		if s != sectorOf(h) {
			t.Errorf("Laid(%v): %x", h, s)
		}
		if got, ok := Read(s); got != h || !ok {
			t.Errorf("Read of %v: %v, %t", h, got, ok)
		}
	}
	for _, h := range wrongs() {
		if s := Laid(h); s != "" {
			t.Errorf("Laid(%v): %x", h, s)
		}
		wantUnread(t, sectorOf(h))
	}
}

// wantUnread holds that a text is no head's sector.
func wantUnread(t *testing.T, s string) {
	t.Helper()
	if h, ok := Read(s); ok || h != (Head{}) {
		t.Errorf("Read(%x): %v, %t", s, h, ok)
	}
}

// P7.1: any heads are read as they were laid.
func TestReadBack(t *testing.T) {
	r := rand.New(rand.NewSource(1))
	for range 2000 {
		h := Head{r.Intn(1 << 31), r.Intn(1 << 31), r.Intn(1 << 62), r.Intn(1 << 62), r.Intn(1 << 62)}
		if got, ok := Read(Laid(h)); got != h || !ok {
			t.Fatalf("%v: %v, %t", h, got, ok)
		}
	}
}

// P7.1: what is no head's sector isn't read: too short, too long, turned at a bit, or with other than 00 behind.
func TestReadWrong(t *testing.T) {
	for _, h := range []Head{{}, {5, 4, 300, 2, 1 << 61}} {
		s := Laid(h)
		for size := range len(s) {
			wantUnread(t, s[:size])
		}
		wantUnread(t, s+"\x00")
		wantUnread(t, s+s)
		wantUnread(t, "\x00"+s[:63])
		for bit := range 8 * len(s) {
			b := []byte(s)
			b[bit/8] ^= 1 << (bit % 8)
			wantUnread(t, string(b))
		}
	}
	wantUnread(t, strings.Repeat("\x00", 64))
	wantUnread(t, strings.Repeat("\xff", 64))
	wantUnread(t, sealedBytes(1, 1, 1, 1))
	wantUnread(t, sealedBytes(1, 1, 1, 1, 1, 0))
}

// P7.1: of no two such sectors, and of no device, nothing is loaded; that is told ahead of the power.
func TestLoadWithoutSectors(t *testing.T) {
	d := device.New(nil, 3)
	for _, off := range []bool{false, true} {
		if off {
			d.Arm(0)
			d.Sync()
		}
		for _, at := range []int{math.MinInt, -2, -1, 2, 3, 4, 1 << 32, math.MaxInt - 1, math.MaxInt} {
			wantLoad(t, d, at, Head{}, api.ErrArg)
			wantSave(t, d, at, Head{}, Head{}, api.ErrArg)
		}
	}
	wantLoad(t, d, 0, Head{}, api.ErrOff)
	wantLoad(t, d, 1, Head{}, api.ErrOff)
	for _, at := range []int{-1, 0, 1} {
		wantLoad(t, nil, at, Head{}, api.ErrArg)
		wantSave(t, nil, at, Head{}, Head{}, api.ErrArg)
		wantLoad(t, device.New(nil, 1), at, Head{}, api.ErrArg)
		wantSave(t, device.New(nil, 1), at, Head{}, Head{}, api.ErrArg)
	}
}

// P7.1: which head is loaded, by what lies in the two sectors.
func TestLoad(t *testing.T) {
	even, odd := Head{Seq: 4, Mark: 7}, Head{Seq: 7, Cut: 9}
	late := Head{Seq: 10, Epoch: 3}
	none, junk := "", "x"
	for _, c := range []struct {
		first, second string
		h             Head
		errno         api.Errno
	}{
		{none, none, Head{}, api.ErrNone},
		{junk, none, Head{}, api.ErrCorrupt},
		{none, junk, Head{}, api.ErrCorrupt},
		{none, strings.Repeat("\x00", 63) + "\x01", Head{}, api.ErrCorrupt},
		{junk, junk, Head{}, api.ErrCorrupt},
		{Laid(even), none, even, api.OK},
		{Laid(even), junk, even, api.OK},
		{none, Laid(odd), odd, api.OK},
		{junk, Laid(odd), odd, api.OK},
		{Laid(even), Laid(odd), odd, api.OK},
		{Laid(late), Laid(odd), late, api.OK},
		// Of a Seq that doesn't belong there.
		{Laid(odd), none, Head{}, api.ErrCorrupt},
		{none, Laid(even), Head{}, api.ErrCorrupt},
		{Laid(odd), Laid(even), Head{}, api.ErrCorrupt},
		{Laid(even), Laid(late), even, api.OK},
		{Laid(odd), Laid(Head{Seq: 1}), Head{Seq: 1}, api.OK},
		{Laid(Head{}), none, Head{}, api.OK},
		{Laid(Head{}), Laid(Head{Seq: 1}), Head{Seq: 1}, api.OK},
		{Laid(Head{Seq: 2147483646}), Laid(Head{Seq: 2147483647}), Head{Seq: 2147483647}, api.OK},
	} {
		for at := range 3 {
			d := device.New(nil, 4)
			d.Put(at, c.first)
			d.Put(at+1, c.second)
			wantLoad(t, d, at, c.h, c.errno)
			if d.Uses() != 0 || len(d.Loose()) != 0 {
				t.Error("Load is no use")
			}
			d.Arm(0)
			d.Sync()
			wantLoad(t, d, at, Head{}, api.ErrOff)
		}
	}
}

// P7.1: what is loaded is what is read, loose or not.
func TestLoadLoose(t *testing.T) {
	d := device.New(nil, 2)
	h := Head{Seq: 1, Mark: 3}
	d.Write(1, Laid(h))
	wantLoad(t, d, 0, h, api.OK)
	d.Crash()
	wantLoad(t, d, 0, Head{}, api.ErrNone)
}

// P7.2: heads are saved in turns, the even ones in the first sector, with a Seq of one more, by a write and a sync.
func TestSave(t *testing.T) {
	d := device.New(nil, 5)
	d.Write(0, "ahead")
	d.Write(4, "behind")
	h := Head{}
	for i := range 10 {
		ahead := h
		h.Epoch, h.Mark = 3*i, 100-i
		asked := h
		asked.Seq++
		wantSave(t, d, 2, h, asked, api.OK)
		if d.Uses() != 2+2*(i+1) || len(d.Loose()) != 0 {
			t.Errorf("%d uses, loose: %v", d.Uses(), d.Loose())
		}
		if s := d.Lasts(2 + asked.Seq%2); s != sectorOf(asked) {
			t.Errorf("the sector: %x", s)
		}
		if i > 0 && d.Lasts(2+ahead.Seq%2) != sectorOf(ahead) {
			t.Error("the one ahead isn't there any more")
		}
		wantLoad(t, d, 2, asked, api.OK)
		h = asked
	}
	if d.Lasts(0)[:5] != "ahead" || d.Lasts(4)[:6] != "behind" || d.Lasts(1) != strings.Repeat("\x00", 64) {
		t.Error("the device wasn't synced, or another sector was written")
	}
}

// P7.2: the document's example: the head of nothing is saved as Seq 1, in the second sector.
func TestSaveOfNothing(t *testing.T) {
	d := device.New(nil, 2)
	wantSave(t, d, 0, Head{}, Head{Seq: 1}, api.OK)
	if d.Lasts(0) != strings.Repeat("\x00", 64) || d.Lasts(1) != sectorOf(Head{Seq: 1}) {
		t.Errorf("%x, %x", d.Lasts(0), d.Lasts(1))
	}
}

// P7.2: heads at their edges are saved, but for those with the greatest Seq; others aren't, whether the power is on or not.
func TestSaveEdges(t *testing.T) {
	for _, h := range edges() {
		d := device.New(nil, 2)
		if h.Seq == 2147483647 {
			wantSave(t, d, 0, h, Head{}, api.ErrArg)
			wantUntouched(t, d)
			continue
		}
		saved := h
		saved.Seq++
		wantSave(t, d, 0, h, saved, api.OK)
	}
	wantSave(t, device.New(nil, 2), 0, Head{Seq: 2147483646}, Head{Seq: 2147483647}, api.OK)
	for _, h := range wrongs() {
		d := device.New(nil, 2)
		wantSave(t, d, 0, h, Head{}, api.ErrArg)
		wantUntouched(t, d)
		d.Arm(0)
		d.Sync()
		wantSave(t, d, 0, h, Head{}, api.ErrArg)
	}
}

// wantUntouched holds that a device wasn't used.
func wantUntouched(t *testing.T, d *device.Device) {
	t.Helper()
	if d.Uses() != 0 || len(d.Loose()) != 0 {
		t.Errorf("%d uses, loose: %v", d.Uses(), d.Loose())
	}
}

// P7.2: the device's error is answered, at each of its uses.
func TestSaveOff(t *testing.T) {
	for n := range 3 {
		d := device.New(nil, 2)
		d.Arm(n)
		if n == 2 {
			wantSave(t, d, 0, Head{Mark: 1}, Head{Seq: 1, Mark: 1}, api.OK)
			continue
		}
		wantSave(t, d, 0, Head{Mark: 1}, Head{}, api.ErrOff)
		wantSave(t, d, 0, Head{Mark: 1}, Head{}, api.ErrOff)
	}
}

// P7.3: behind a crash at any use within a Save, whatever it keeps, the head ahead is loaded, or the new one; behind a Save that answered no error, the new one.
func TestCrashWithinSave(t *testing.T) {
	for rounds := range 4 {
		for n := range 3 {
			for _, keep := range [][]int{nil, {0}, {1}, {2}, {1, 2}, {0, 1, 2, 3}} {
				d := device.New(nil, 4)
				old, _ := Save(d, 1, Head{Epoch: 1})
				for i := range rounds {
					old.Cut, old.Start = old.Cut+i, i
					old, _ = Save(d, 1, old)
				}
				next := Head{Seq: old.Seq, Epoch: 9, Cut: 8, Start: 7, Mark: 6}
				d.Arm(n)
				_, errno := Save(d, 1, next)
				next.Seq++
				d.Crash(keep...)
				got, e := Load(d, 1)
				if e != api.OK || got != next && (errno == api.OK || got != old) {
					t.Fatalf("%d rounds, off behind %d, kept %v: %v, %d", rounds, n, keep, got, e)
				}
				kept := slices.Contains(keep, 1+next.Seq%2)
				if n == 1 && kept != (got == next) {
					t.Errorf("%d rounds, kept %v: %v", rounds, keep, got)
				}
			}
		}
	}
}

// P7.3: however often saves crash, one behind the other, the head is that of the last one that lasts.
func TestCrashesOneBehindTheOther(t *testing.T) {
	for seed := range 50 {
		r := rand.New(rand.NewSource(int64(seed)))
		d := device.New(nil, 2)
		h, _ := Save(d, 0, Head{})
		for i := range 40 {
			next := h
			next.Mark = i + 1
			d.Arm(r.Intn(4))
			Save(d, 0, next)
			next.Seq++
			d.Crash(r.Perm(2)[:r.Intn(3)]...)
			got, errno := Load(d, 0)
			if errno != api.OK || got != h && got != next {
				t.Fatalf("seed %d: %v, %d", seed, got, errno)
			}
			h = got
		}
	}
}

// Rule 5: on a device that no maker answered nothing is promised, but that no call panics.
func TestNoMaker(t *testing.T) {
	lost := device.New(nil, 4)
	lost.Power = nil
	for _, d := range []*device.Device{{}, {Power: &device.Power{}}, lost} {
		for at := -1; at < 4; at++ {
			Load(d, at)
			Save(d, at, Head{})
		}
	}
}
