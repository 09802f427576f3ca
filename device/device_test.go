package device

import (
	"math"
	"math/rand"
	"slices"
	"strings"
	"testing"

	"quadriga/api"
)

// full is a sector that begins with a text, and has 00 behind.
func full(s string) string {
	return s + strings.Repeat("\x00", 64-len(s))
}

// want holds an error's number against the one that is asked.
func want(t *testing.T, what string, got, errno api.Errno) {
	t.Helper()
	if got != errno {
		t.Errorf("%s: %d, not %d", what, got, errno)
	}
}

// wantRead holds what is read of a sector against what is asked.
func wantRead(t *testing.T, d *Device, sector int, text string) {
	t.Helper()
	if s, errno := d.Read(sector); s != text || errno != api.OK {
		t.Errorf("Read(%d): %q, %d, not %q", sector, s, errno, text)
	}
}

// wantLasts holds a sector as it lasts against what is asked.
func wantLasts(t *testing.T, d *Device, sector int, text string) {
	t.Helper()
	if s := d.Lasts(sector); s != text {
		t.Errorf("Lasts(%d): %q, not %q", sector, s, text)
	}
}

// wantLoose holds the loose sectors against those that are asked.
func wantLoose(t *testing.T, d *Device, l ...int) {
	t.Helper()
	if got := d.Loose(); !slices.Equal(got, l) {
		t.Errorf("Loose: %v, not %v", got, l)
	}
}

// P5.1: a power's zero value is on, has no uses, and isn't armed.
func TestZeroPower(t *testing.T) {
	var p Power
	if !p.On() || p.Uses() != 0 {
		t.Errorf("On: %t, Uses: %d", p.On(), p.Uses())
	}
	d := New(&p, 1)
	for i := range 100 {
		want(t, "Write", d.Write(0), api.OK)
		want(t, "Sync", d.Sync(), api.OK)
		if p.Uses() != 2*i+2 {
			t.Fatalf("Uses: %d, not %d", p.Uses(), 2*i+2)
		}
	}
	if !p.On() {
		t.Error("off, and never armed")
	}
}

// P5.1: a power counts the uses of all its devices: of each Write and Sync, those that answer an error, too, but none while it is off.
func TestUses(t *testing.T) {
	p := &Power{}
	d, e := New(p, 3), New(p, 2)
	own := New(nil, 3)
	d.Write(0, "a")
	e.Write(5, "a")
	e.Write(0, full("a"), "b")
	d.Sync()
	e.Sync()
	own.Sync()
	if p.Uses() != 5 || d.Uses() != 5 || e.Uses() != 5 || own.Uses() != 1 {
		t.Errorf("Uses: %d, %d, %d, %d", p.Uses(), d.Uses(), e.Uses(), own.Uses())
	}
	d.Read(0)
	d.Loose()
	d.Lasts(0)
	d.Put(1, "c")
	d.Sectors()
	d.Crash(0)
	if p.Uses() != 5 {
		t.Errorf("Uses: %d: what is no use was counted", p.Uses())
	}
	p.Arm(0)
	want(t, "Write", d.Write(0, "b"), api.ErrOff)
	if p.Uses() != 6 {
		t.Errorf("Uses: %d: that by which it goes off is one", p.Uses())
	}
	want(t, "Write", d.Write(0, "b"), api.ErrOff)
	want(t, "Sync", e.Sync(), api.ErrOff)
	if p.Uses() != 6 || e.Uses() != 6 {
		t.Errorf("Uses: %d: there is none while it is off", p.Uses())
	}
	d.Crash()
	d.Sync()
	if p.Uses() != 7 {
		t.Errorf("Uses: %d: they go on behind a crash", p.Uses())
	}
}

// P5.1: an armed power goes off by the use behind so many more, of whichever device; numbers below 0 are as 0.
func TestArm(t *testing.T) {
	for _, n := range []int{math.MinInt, -1, 0, 1, 2, 3, 10} {
		p := &Power{}
		d, e := New(p, 2), New(p, 2)
		d.Write(0, "a")
		p.Arm(n)
		for i := range max(n, 0) {
			use := e.Sync
			if i%2 == 1 {
				use = func() api.Errno { return d.Write(1, "b") }
			}
			want(t, "a use ahead", use(), api.OK)
			if !p.On() || !d.On() || !e.On() {
				t.Fatalf("Arm(%d): off behind %d uses", n, i+1)
			}
		}
		want(t, "the use by which it goes off", e.Sync(), api.ErrOff)
		if p.On() || d.On() || e.On() {
			t.Errorf("Arm(%d): on", n)
		}
	}
}

// P5.1: uses that answer ErrArg count for an armed power, too; that it goes off is told first.
func TestArmedByWrongUses(t *testing.T) {
	d := New(nil, 1)
	d.Arm(1)
	want(t, "Write", d.Write(1), api.ErrArg)
	want(t, "Write", d.Write(1), api.ErrOff)
	if d.On() {
		t.Error("on")
	}
	want(t, "Write", d.Write(-1, full("a"), "b"), api.ErrOff)
}

// P5.1: the last Arm holds; one by the greatest number holds, too.
func TestArmAgain(t *testing.T) {
	d := New(nil, 1)
	d.Arm(0)
	d.Arm(2)
	want(t, "Write", d.Write(0), api.OK)
	d.Arm(math.MaxInt)
	for range 10 {
		want(t, "Write", d.Write(0), api.OK)
	}
	d.Arm(0)
	want(t, "Write", d.Write(0), api.ErrOff)
}

// P5.1: a device has from 1 to 4096 sectors; of others there is none.
func TestNew(t *testing.T) {
	for _, sectors := range []int{math.MinInt, -4096, -1, 0, 4097, 1 << 32, math.MaxInt} {
		if New(nil, sectors) != nil || New(&Power{}, sectors) != nil {
			t.Errorf("New(%d): there is one", sectors)
		}
	}
	for _, sectors := range []int{1, 2, 64, 4095, 4096} {
		d := New(nil, sectors)
		if d == nil || d.Sectors() != sectors || !d.On() || d.Uses() != 0 {
			t.Fatalf("New(%d): %d sectors", sectors, d.Sectors())
		}
		wantLoose(t, d)
		for i := range sectors {
			wantRead(t, d, i, full(""))
			wantLasts(t, d, i, full(""))
		}
	}
}

// P5.1: a device answers for the power that it was made on, and embeds it; one made on none has one of its own.
func TestDeviceHasItsPower(t *testing.T) {
	p := &Power{}
	d, e, own := New(p, 1), New(p, 1), New(nil, 1)
	if d.Power != p || e.Power != p || own.Power == nil || own.Power == New(nil, 1).Power {
		t.Error("another power")
	}
	d.Arm(0)
	e.Sync()
	if d.On() || e.On() || p.On() || !own.On() {
		t.Error("On")
	}
	late := New(p, 1)
	if late.On() || late.Uses() != 1 {
		t.Error("a device made on a power that is off is off")
	}
}

// P5.1: what a nil power and a nil device answer.
func TestNil(t *testing.T) {
	var p *Power
	p.Arm(0)
	if p.On() || p.Uses() != 0 {
		t.Errorf("nil power: %t, %d", p.On(), p.Uses())
	}
	var d *Device
	d.Arm(0)
	d.Crash()
	d.Crash(0, 1, -1)
	if d.On() || d.Uses() != 0 || d.Sectors() != 0 || len(d.Loose()) != 0 || d.Lasts(0) != "" {
		t.Error("nil device")
	}
	want(t, "Write", d.Write(0), api.ErrArg)
	want(t, "Write", d.Write(-1, "a"), api.ErrArg)
	want(t, "Sync", d.Sync(), api.ErrArg)
	want(t, "Put", d.Put(0, ""), api.ErrArg)
	s, errno := d.Read(0)
	want(t, "Read", errno, api.ErrArg)
	if s != "" {
		t.Errorf("Read: %q", s)
	}
}

// Rule 5: of a device that no maker answered nothing is promised, but that no call panics.
func TestNoMaker(t *testing.T) {
	lost := New(nil, 2)
	lost.Power = nil
	for _, d := range []*Device{{}, {Power: &Power{}}, lost} {
		d.Arm(1)
		d.On()
		d.Uses()
		d.Write(0, "a")
		d.Write(0, "a")
		d.Sync()
		d.Read(0)
		d.Put(0, "a")
		d.Loose()
		d.Crash(0)
		d.Lasts(0)
		d.Sectors()
	}
}

// P5.2: a sector that is written is the texts, one behind the other, and 00 behind; it is read at once.
func TestWrite(t *testing.T) {
	d := New(nil, 3)
	want(t, "Write", d.Write(1, "ab", "", "c"), api.OK)
	wantRead(t, d, 1, full("abc"))
	wantRead(t, d, 0, full(""))
	wantRead(t, d, 2, full(""))
	want(t, "Write", d.Write(1, "x"), api.OK)
	wantRead(t, d, 1, full("x"))
	want(t, "Write", d.Write(1), api.OK)
	wantRead(t, d, 1, full(""))
	long := strings.Repeat("\xff", 63)
	want(t, "Write", d.Write(0, long), api.OK)
	wantRead(t, d, 0, long+"\x00")
	want(t, "Write", d.Write(0, long, "y"), api.OK)
	wantRead(t, d, 0, long+"y")
	want(t, "Write", d.Write(2, "", long+"z", ""), api.OK)
	wantRead(t, d, 2, long+"z")
	want(t, "Write", d.Write(2, "\x00\x01\x00"), api.OK)
	wantRead(t, d, 2, full("\x00\x01"))
}

// P5.2: texts of more than a sector, or no such sector: nothing is written.
func TestWriteWrong(t *testing.T) {
	d := New(nil, 3)
	d.Write(1, "a")
	d.Sync()
	long := strings.Repeat("x", 64)
	for _, texts := range [][]string{{long, "y"}, {"y", long}, {long + "y"}, {"", long, "", "y"}, {long[:32], long[:33]}, {long, long, long}, {strings.Repeat(long, 1000)}} {
		want(t, "Write", d.Write(1, texts...), api.ErrArg)
	}
	for _, sector := range []int{math.MinInt, -1, 3, 4, 4096, 1 << 32, math.MaxInt} {
		want(t, "Write", d.Write(sector, "b"), api.ErrArg)
		want(t, "Put", d.Put(sector, "b"), api.ErrArg)
		s, errno := d.Read(sector)
		want(t, "Read", errno, api.ErrArg)
		if s != "" || d.Lasts(sector) != "" {
			t.Errorf("sector %d: %q, %q", sector, s, d.Lasts(sector))
		}
	}
	wantLoose(t, d)
	wantRead(t, d, 0, full(""))
	wantRead(t, d, 1, full("a"))
	wantRead(t, d, 2, full(""))
}

// P5.2: with the power off nothing is written, synced or read, whatever the arguments; what was loose stays so.
func TestOff(t *testing.T) {
	d := New(nil, 2)
	d.Write(0, "a")
	d.Sync()
	d.Write(0, "b")
	for _, use := range []func() api.Errno{
		func() api.Errno { return d.Write(0, "c") },
		func() api.Errno { return d.Write(1, "c") },
		func() api.Errno { return d.Write(9, "c") },
		func() api.Errno { return d.Write(1, full("c"), "d") },
		d.Sync,
	} {
		d.Arm(0)
		want(t, "the use by which it goes off", use(), api.ErrOff)
		want(t, "one behind", use(), api.ErrOff)
		want(t, "Sync behind", d.Sync(), api.ErrOff)
		for _, sector := range []int{0, 1, 2, -1} {
			s, errno := d.Read(sector)
			want(t, "Read", errno, api.ErrOff)
			if s != "" {
				t.Errorf("Read: %q", s)
			}
		}
		wantLoose(t, d, 0)
		wantLasts(t, d, 0, full("a"))
		wantLasts(t, d, 1, full(""))
		d.Crash()
		wantRead(t, d, 0, full("a"))
		wantRead(t, d, 1, full(""))
		d.Write(0, "b")
	}
}

// P5.2: written sectors are loose, each once, rising, until they are synced; then they last as they were written last.
func TestSync(t *testing.T) {
	d := New(nil, 4096)
	for _, sector := range []int{4095, 7, 0, 7, 300} {
		d.Write(sector, "a")
		d.Write(sector, "b")
	}
	wantLoose(t, d, 0, 7, 300, 4095)
	wantLasts(t, d, 7, full(""))
	want(t, "Sync", d.Sync(), api.OK)
	wantLoose(t, d)
	for _, sector := range []int{0, 7, 300, 4095} {
		wantRead(t, d, sector, full("b"))
		wantLasts(t, d, sector, full("b"))
	}
	// Written as it is already: loose all the same.
	d.Write(7, "b")
	d.Write(1)
	wantLoose(t, d, 1, 7)
	want(t, "Sync", d.Sync(), api.OK)
	wantLoose(t, d)
	want(t, "Sync of none", d.Sync(), api.OK)
}

// Rule 4: a list of loose sectors is new memory.
func TestLooseIsNew(t *testing.T) {
	d := New(nil, 4)
	d.Write(1)
	d.Write(2)
	l := d.Loose()
	l[0], l[1] = 9, 9
	wantLoose(t, d, 1, 2)
}

// Rule 4: what is handed in is neither changed nor kept.
func TestHandedIn(t *testing.T) {
	d := New(nil, 4)
	texts := []string{"a", "b", "c"}
	d.Write(1, texts[:2]...)
	texts[0] = "x"
	wantRead(t, d, 1, full("ab"))
	if texts[1] != "b" || texts[2] != "c" {
		t.Errorf("Write changed its texts: %q", texts)
	}
	d.Write(0, "y")
	keep := []int{3, 1, 3, 0}
	d.Crash(keep[:3]...)
	if !slices.Equal(keep, []int{3, 1, 3, 0}) {
		t.Errorf("Crash changed its numbers: %v", keep)
	}
	wantRead(t, d, 0, full(""))
}

// P5.3: the document's example.
func TestExample(t *testing.T) {
	d := New(nil, 3)
	d.Write(1, "a")
	d.Write(2, "b")
	d.Crash(2)
	wantRead(t, d, 1, full(""))
	wantRead(t, d, 2, full("b"))
}

// P5.3: a crash keeps of the loose sectors those that are told, as they were written last; the others are as they lasted.
func TestCrash(t *testing.T) {
	d := New(nil, 5)
	for i := range 4 {
		d.Write(i, "old")
	}
	d.Sync()
	for i := range 3 {
		d.Write(i, "new")
		d.Write(i, "newer")
	}
	d.Crash(math.MinInt, -1, 2, 0, 2, 3, 4, 5, 4096, math.MaxInt)
	for i, s := range []string{"newer", "old", "newer", "old", ""} {
		wantRead(t, d, i, full(s))
		wantLasts(t, d, i, full(s))
	}
	wantLoose(t, d)
	d.Sync()
	wantRead(t, d, 1, full("old"))
	d.Crash(1)
	wantRead(t, d, 1, full("old"))
}

// P5.3: behind a crash the power is on for all its devices, and not armed; the other devices' loose sectors are loose still.
func TestCrashAndPower(t *testing.T) {
	p := &Power{}
	d, e := New(p, 2), New(p, 2)
	e.Write(1, "e")
	p.Arm(0)
	d.Sync()
	d.Crash()
	if !p.On() || !d.On() || !e.On() {
		t.Error("off")
	}
	wantLoose(t, e, 1)
	wantRead(t, e, 1, full("e"))
	wantLasts(t, e, 1, full(""))
	for range 10 {
		want(t, "Write", d.Write(0, "a"), api.OK)
	}
	// A crash while the power is on and armed.
	p.Arm(1)
	d.Crash(0)
	for range 10 {
		want(t, "Write", e.Write(0, "a"), api.OK)
	}
	wantRead(t, d, 0, full("a"))
	// One that was armed while it was off.
	p.Arm(0)
	d.Sync()
	p.Arm(0)
	d.Crash()
	want(t, "Sync", e.Sync(), api.OK)
}

// P5.3: what is put lasts, and is read, whether the sector was loose or not; it is no use, and heeds no power.
func TestPut(t *testing.T) {
	d := New(nil, 4)
	d.Write(0, "a")
	d.Write(1, "a")
	want(t, "Put", d.Put(0, "put"), api.OK)
	want(t, "Put", d.Put(2, strings.Repeat("p", 64)), api.OK)
	want(t, "Put", d.Put(2, strings.Repeat("p", 65)), api.ErrArg)
	wantLoose(t, d, 1)
	wantRead(t, d, 0, full("put"))
	wantLasts(t, d, 0, full("put"))
	wantRead(t, d, 2, strings.Repeat("p", 64))
	d.Arm(0)
	want(t, "Put", d.Put(3, "armed"), api.OK)
	if d.Uses() != 2 || !d.On() {
		t.Errorf("Put is no use: %d", d.Uses())
	}
	d.Sync()
	want(t, "Put", d.Put(1, "off"), api.OK)
	want(t, "Put", d.Put(2, ""), api.OK)
	wantLasts(t, d, 1, full("off"))
	if _, errno := d.Read(1); errno != api.ErrOff || d.On() {
		t.Errorf("Put turned the power on: %d", errno)
	}
	wantLoose(t, d)
	d.Crash(0, 1, 2, 3)
	for i, s := range []string{"put", "off", "", "armed"} {
		wantRead(t, d, i, full(s))
	}
}

// model is a device told as plainly as can be: each sector twice, and whether they differ in being synced.
type model struct {
	lasts, read [6]string
	loose       [6]bool
}

// hold holds all that a device answers against a model.
func (m *model) hold(t *testing.T, d *Device) {
	t.Helper()
	var loose []int
	for i := range m.lasts {
		wantLasts(t, d, i, full(m.lasts[i]))
		if d.On() {
			wantRead(t, d, i, full(m.read[i]))
		}
		if m.loose[i] {
			loose = append(loose, i)
		}
	}
	wantLoose(t, d, loose...)
}

// settle lets a model's sectors last as they were written last where it is told so; the others are as they lasted.
func (m *model) settle(last func(int) bool) {
	for i := range m.lasts {
		if m.loose[i] && last(i) {
			m.lasts[i] = m.read[i]
		}
		m.read[i] = m.lasts[i]
		m.loose[i] = false
	}
}

// P5.2, P5.3: many calls in any order, held against the model.
func TestAgainstModel(t *testing.T) {
	for seed := range 200 {
		r := rand.New(rand.NewSource(int64(seed)))
		d := New(nil, 6)
		m := &model{}
		for range 100 {
			sector, text := r.Intn(6), string(rune('a'+r.Intn(26)))
			switch r.Intn(6) {
			case 0, 1, 2:
				if d.Write(sector, text) == api.OK {
					m.read[sector], m.loose[sector] = text, true
				}
			case 3:
				if d.Sync() == api.OK {
					m.settle(func(int) bool { return true })
				}
			case 4:
				keep := r.Perm(6)[:r.Intn(7)]
				d.Crash(keep...)
				m.settle(func(i int) bool { return slices.Contains(keep, i) })
				d.Arm(r.Intn(20))
			case 5:
				d.Put(sector, text)
				m.lasts[sector], m.read[sector], m.loose[sector] = text, text, false
			}
			m.hold(t, d)
			if t.Failed() {
				t.Fatalf("seed %d", seed)
			}
		}
	}
}
