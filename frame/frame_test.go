package frame

import (
	"math"
	"slices"
	"strings"
	"testing"

	"quadriga/api"
	"quadriga/sum"
)

// The document's limits, written out: taken from the package, a wrong one would hold against itself.
const (
	lastEpoch  = 2147483647
	lastNumber = 4611686018427387903
)

// data is a text of so many bytes, no two neighbours the same.
func data(size int) string {
	b := make([]byte, size)
	for i := range b {
		b[i] = byte(7 * i)
	}
	return string(b)
}

// rightFrames are frames that may be, with the edges of each part.
func rightFrames() []Frame {
	return []Frame{
		{},
		{1, 0, 5, "ab"},
		{0, 0, 0, "\x00"},
		{lastEpoch, lastNumber, lastNumber, data(api.MaxData)},
		{lastEpoch, 0, 0, ""},
		{0, lastNumber, 0, "x"},
		{0, 0, lastNumber, "x"},
		{3, 1 << 40, 1 << 50, data(199)},
		{258, 65537, 16777217, "some data"},
	}
}

// wrongFrames are frames that may not be, each in one part alone.
func wrongFrames() []Frame {
	return []Frame{
		{-1, 0, 0, ""},
		{math.MinInt, 0, 0, ""},
		{lastEpoch + 1, 0, 0, ""},
		{1 << 32, 0, 0, ""},
		{math.MaxInt, 0, 0, ""},
		{0, -1, 0, ""},
		{0, math.MinInt, 0, ""},
		{0, lastNumber + 1, 0, ""},
		{0, math.MaxInt, 0, ""},
		{0, 0, -1, ""},
		{0, 0, math.MinInt, ""},
		{0, 0, lastNumber + 1, ""},
		{0, 0, math.MaxInt, ""},
		{0, 0, 0, data(api.MaxData + 1)},
		{0, 0, 0, data(256)},
		{0, 0, 0, data(1000)},
	}
}

// numbered is the bytes of a number, the highest first: whatever the frame may have.
func numbered(size int, n uint64) string {
	b := make([]byte, size)
	for i := range b {
		b[i] = byte(n >> (8 * (size - 1 - i)))
	}
	return string(b)
}

// sealed is what a frame's bytes would be, right or not, as the document words them.
func sealed(length, epoch, at, gsn uint64, text string) string {
	return sum.Seal(numbered(1, length), numbered(4, epoch), numbered(8, at), numbered(8, gsn), text)
}

// P3.1: 25 bytes more than all data.
func TestSize(t *testing.T) {
	for _, c := range []struct {
		l    []string
		size int
	}{
		{nil, 25},
		{[]string{""}, 25},
		{[]string{"ab"}, 27},
		{[]string{"a", "", "bcd"}, 29},
		{[]string{data(100), data(100)}, 225},
	} {
		if n := Size(c.l...); n != c.size {
			t.Errorf("Size(%q): %d", c.l, n)
		}
	}
}

// P3.1: the bytes of the chapter's example, and of each part's highest byte first.
func TestMakeBytes(t *testing.T) {
	body := "\x02\x00\x00\x00\x01\x00\x00\x00\x00\x00\x00\x00\x00\x00\x00\x00\x00\x00\x00\x00\x05ab"
	if s := Make(Frame{1, 0, 5, "ab"}); s != body+sum.Laid(body) || len(s) != 27 {
		t.Errorf("Make of the example: %x", s)
	}
	body = "\x01\x01\x02\x03\x04\x11\x12\x13\x14\x15\x16\x17\x18\x21\x22\x23\x24\x25\x26\x27\x28z"
	if s := Make(Frame{0x01020304, 0x1112131415161718, 0x2122232425262728, "z"}); s != body+sum.Laid(body) {
		t.Errorf("Make: %x", s)
	}
	for _, f := range rightFrames() {
		s := Make(f)
		if want := sealed(uint64(len(f.Data)), uint64(f.Epoch), uint64(f.At), uint64(f.Gsn), f.Data); s != want {
			t.Errorf("Make(%v): %x", f, s)
		}
		if len(s) != Size(f.Data) {
			t.Errorf("Make(%v): %d bytes", f, len(s))
		}
	}
}

// P3.1: more data stand behind the frame's, up to 200 bytes in all.
func TestMakeMore(t *testing.T) {
	whole := data(api.MaxData)
	for _, at := range []int{0, 1, 100, 199, 200} {
		f := Frame{Epoch: 1, At: 2, Gsn: 3, Data: whole[:at]}
		want := Make(Frame{Epoch: 1, At: 2, Gsn: 3, Data: whole})
		if s := Make(f, whole[at:]); s != want {
			t.Errorf("in two, at %d: %x", at, s)
		}
		if s := Make(f, "", whole[at:], ""); s != want {
			t.Errorf("in four, at %d: %x", at, s)
		}
		if s := Make(f, whole[at:], "x"); s != "" {
			t.Errorf("a byte too many, at %d: %x", at, s)
		}
	}
	if s := Make(Frame{Data: "a"}, "b", "c"); s != Make(Frame{Data: "abc"}) {
		t.Errorf("one behind the other: %x", s)
	}
	// 256 and more: as one byte their number would be a right one again.
	for _, size := range []int{201, 255, 256, 300, 512, 100000} {
		if s := Make(Frame{}, data(size)); s != "" {
			t.Errorf("%d bytes of data: %x", size, s)
		}
	}
}

// P3.1: what may not be is not made.
func TestMakeRefused(t *testing.T) {
	for _, f := range wrongFrames() {
		if s := Make(f); s != "" {
			t.Errorf("Make(%v): %x", f, s)
		}
		if s := Make(f, "x"); s != "" {
			t.Errorf("Make(%v), and more: %x", f, s)
		}
	}
}

// P3.1, P6: what was made is opened, whatever stands behind.
func TestOpen(t *testing.T) {
	for _, f := range rightFrames() {
		s := Make(f)
		for _, behind := range []string{"", "\x00", "\xff", s, data(300)} {
			if got, n, ok := Open(s + behind); got != f || n != len(s) || !ok {
				t.Errorf("Open of %v: %v, %d, %t", f, got, n, ok)
			}
		}
	}
}

// refused tells whether there is no frame at the beginning, and all else is nothing.
func refused(s string) bool {
	f, n, ok := Open(s)
	return f == Frame{} && n == 0 && !ok
}

// P3.1: what has fewer bytes, other ones, or a part that may not be is not opened.
func TestOpenRefused(t *testing.T) {
	whole := Make(Frame{1, 2, 3, "abc"})
	for n := range len(whole) {
		if !refused(whole[:n]) {
			t.Errorf("Open of %d bytes", n)
		}
	}
	for _, s := range []string{
		"",
		strings.Repeat("\x00", 25),
		strings.Repeat("\xff", 300),
		"\x00" + whole,
		whole[1:],
		sealed(2, 1, 2, 3, "abc"),
		sealed(4, 1, 2, 3, "abc"),
		sealed(4, 1, 2, 3, "abc") + "d",
		sealed(0, lastEpoch+1, 0, 0, ""),
		sealed(0, math.MaxUint32, 0, 0, ""),
		sealed(0, 0, lastNumber+1, 0, ""),
		sealed(0, 0, math.MaxInt64, 0, ""),
		sealed(0, 0, math.MaxInt64+1, 0, ""),
		sealed(0, 0, math.MaxUint64, 0, ""),
		sealed(0, 0, 0, lastNumber+1, ""),
		sealed(0, 0, 0, math.MaxInt64, ""),
		sealed(0, 0, 0, math.MaxInt64+1, ""),
		sealed(0, 0, 0, math.MaxUint64, ""),
		sealed(201, 0, 0, 0, data(201)),
		sealed(255, 0, 0, 0, data(255)),
	} {
		if !refused(s) {
			t.Errorf("Open(%x)", s)
		}
	}
	if f, n, ok := Open(sealed(200, 0, 0, 0, data(200))); len(f.Data) != 200 || n != 225 || !ok {
		t.Errorf("Open of 200 bytes: %v, %d, %t", f, n, ok)
	}
}

// P3.2: place, Gsn and epoch, at their edges.
func TestFits(t *testing.T) {
	r := Rule{Epoch: 3, Cut: 100}
	for _, c := range []struct {
		rule      Rule
		f         Frame
		at, above int
		fits      bool
	}{
		{r, Frame{3, 50, 7, "x"}, 50, 6, true},
		{r, Frame{3, 50, 7, ""}, 50, -1, true},
		{r, Frame{3, 50, 0, ""}, 50, -1, true},
		{r, Frame{3, 50, 0, ""}, 50, math.MinInt, true},
		// the place
		{r, Frame{3, 49, 7, ""}, 50, 6, false},
		{r, Frame{3, 51, 7, ""}, 50, 6, false},
		{r, Frame{3, 0, 7, ""}, 0, 6, true},
		// the Gsn
		{r, Frame{3, 50, 7, ""}, 50, 7, false},
		{r, Frame{3, 50, 7, ""}, 50, 8, false},
		{r, Frame{3, 50, 0, ""}, 50, 0, false},
		{r, Frame{3, 50, lastNumber, ""}, 50, lastNumber - 1, true},
		{r, Frame{3, 50, lastNumber, ""}, 50, math.MaxInt, false},
		// the epoch, ahead of the cut and behind it
		{r, Frame{0, 99, 7, ""}, 99, 6, true},
		{r, Frame{2, 99, 7, ""}, 99, 6, true},
		{r, Frame{3, 99, 7, ""}, 99, 6, true},
		{r, Frame{4, 99, 7, ""}, 99, 6, false},
		{r, Frame{2, 100, 7, ""}, 100, 6, false},
		{r, Frame{3, 100, 7, ""}, 100, 6, true},
		{r, Frame{4, 100, 7, ""}, 100, 6, false},
		{r, Frame{2, 101, 7, ""}, 101, 6, false},
		{r, Frame{3, 101, 7, ""}, 101, 6, true},
		// other rules
		{Rule{}, Frame{}, 0, -1, true},
		{Rule{}, Frame{Epoch: 1}, 0, -1, false},
		{Rule{Epoch: 1}, Frame{}, 0, -1, false},
		{Rule{Epoch: 1, Cut: 1}, Frame{}, 0, -1, true},
		{Rule{Epoch: math.MaxInt, Cut: math.MaxInt}, Frame{lastEpoch, lastNumber, 1, ""}, lastNumber, 0, true},
		{Rule{Epoch: math.MinInt, Cut: math.MaxInt}, Frame{}, 0, -1, false},
		{Rule{Epoch: 1, Cut: math.MinInt}, Frame{Epoch: 1}, 0, -1, true},
	} {
		if fits := c.rule.Fits(c.f, c.at, c.above); fits != c.fits {
			t.Errorf("%v.Fits(%v, %d, %d): %t", c.rule, c.f, c.at, c.above, fits)
		}
	}
}

// P3.2: what is no frame stands in no chain, even where the rule speaks of its numbers.
func TestFitsNoFrame(t *testing.T) {
	for _, f := range wrongFrames() {
		for _, r := range []Rule{{Epoch: f.Epoch}, {Epoch: math.MaxInt, Cut: math.MaxInt}} {
			if r.Fits(f, f.At, math.MinInt) {
				t.Errorf("%v.Fits(%v)", r, f)
			}
		}
	}
}

// laid is frames one behind the other from a place on, each with the place where it stands, and that behind all.
func laid(at int, l []Frame) (string, []Frame, int) {
	var s strings.Builder
	var stand []Frame
	for _, f := range l {
		f.At = at
		s.WriteString(Make(f))
		stand = append(stand, f)
		at += Size(f.Data)
	}
	return s.String(), stand, at
}

// P3.2: the chain goes on as far as frames fit, and tells the place behind it.
func TestChain(t *testing.T) {
	l := []Frame{{1, 0, 3, "a"}, {2, 0, 4, ""}, {1, 0, 9, data(200)}, {2, 0, 1000, "last"}}
	for _, from := range []int{0, 1, 12345, lastNumber - 1000} {
		s, stand, end := laid(from, l)
		r := Rule{Epoch: 2, Cut: stand[3].At}
		for _, behind := range []string{"", "\x00", data(400), s, Make(Frame{2, end, 1000, "x"}), Make(Frame{2, end + 1, 1001, "x"}), Make(Frame{1, end, 1001, "x"}), Make(Frame{3, end, 1001, "x"})} {
			got, behindAll := r.Chain(s+behind, from, 2)
			if !slices.Equal(got, stand) || behindAll != end {
				t.Errorf("from %d, behind it %x: %v, %d", from, behind, got, behindAll)
			}
		}
		// Of each beginning: the frames that are whole.
		for n := range len(s) + 1 {
			got, behindAll := r.Chain(s[:n], from, -1)
			whole := 0
			for whole < len(stand) && stand[whole].At+Size(stand[whole].Data) <= from+n {
				whole++
			}
			want := from
			if whole > 0 {
				want = stand[whole-1].At + Size(stand[whole-1].Data)
			}
			if !slices.Equal(got, stand[:whole]) || behindAll != want {
				t.Fatalf("from %d, %d bytes: %v, %d", from, n, got, behindAll)
			}
		}
	}
}

// P3.2: a chain ends ahead of the first frame that doesn't fit, though others behind would.
func TestChainEnds(t *testing.T) {
	for _, c := range []struct {
		name  string
		rule  Rule
		above int
		l     []Frame
		many  int
	}{
		{"the first Gsn isn't above", Rule{1, 0}, 3, []Frame{{1, 0, 3, ""}, {1, 0, 4, ""}}, 0},
		{"the first Gsn is above", Rule{1, 0}, 2, []Frame{{1, 0, 3, ""}, {1, 0, 4, ""}}, 2},
		{"the same Gsn", Rule{1, 0}, -1, []Frame{{1, 0, 0, ""}, {1, 0, 0, ""}, {1, 0, 1, ""}}, 1},
		{"a Gsn below", Rule{1, 0}, -1, []Frame{{1, 0, 5, ""}, {1, 0, 6, ""}, {1, 0, 4, ""}, {1, 0, 7, ""}}, 2},
		{"a greater epoch", Rule{2, 1000}, -1, []Frame{{1, 0, 1, ""}, {3, 0, 2, ""}, {2, 0, 3, ""}}, 1},
		{"elder epochs ahead of the cut", Rule{2, 50}, -1, []Frame{{0, 0, 1, ""}, {1, 0, 2, ""}, {2, 0, 3, ""}}, 3},
		{"an elder epoch behind the cut", Rule{2, 50}, -1, []Frame{{2, 0, 1, ""}, {0, 0, 2, ""}, {1, 0, 3, ""}, {2, 0, 4, ""}}, 2},
		{"a frame over the cut", Rule{2, 49}, -1, []Frame{{2, 0, 1, ""}, {0, 0, 2, ""}, {2, 0, 3, ""}}, 3},
		{"none", Rule{2, 0}, -1, nil, 0},
	} {
		s, stand, _ := laid(0, c.l)
		_, _, end := laid(0, c.l[:c.many])
		if got, behind := c.rule.Chain(s, 0, c.above); !slices.Equal(got, stand[:c.many]) || behind != end {
			t.Errorf("%s: %v, %d", c.name, got, behind)
		}
	}
}

// P3.2: frames that stand elsewhere than their places say are no chain.
func TestChainElsewhere(t *testing.T) {
	s, _, _ := laid(100, []Frame{{1, 0, 1, "a"}, {1, 0, 2, "b"}})
	r := Rule{Epoch: 1}
	for _, at := range []int{0, 99, 101, -1, math.MinInt, math.MaxInt} {
		if l, end := r.Chain(s, at, -1); len(l) != 0 || end != at {
			t.Errorf("at %d: %v, %d", at, l, end)
		}
	}
	gap := Make(Frame{1, 0, 1, ""}) + "\x00" + Make(Frame{1, 26, 2, ""})
	if l, end := r.Chain(gap, 0, -1); len(l) != 1 || end != 25 {
		t.Errorf("behind a gap: %v, %d", l, end)
	}
	twice := Make(Frame{1, 0, 1, ""}) + Make(Frame{1, 0, 2, ""})
	if l, end := r.Chain(twice, 0, -1); len(l) != 1 || end != 25 {
		t.Errorf("the same place: %v, %d", l, end)
	}
}

// turned is a text with a burst's bits turned, from one of its bits on (the lowest of a byte first).
func turned(s string, from int, burst uint32) string {
	b := []byte(s)
	for i := range 32 {
		if at := from + i; burst>>i&1 == 1 && at < 8*len(b) {
			b[at/8] ^= 1 << (at % 8)
		}
	}
	return string(b)
}

// bursts are turns of bits within 32: each begins with a bit that is turned.
func bursts() []uint32 {
	l := []uint32{1, 0xffffffff, 0x80000001, 0xedb88321, 0xdb710641, 0x04c11db7, 0x82608edb}
	for i := 1; i < 32; i++ {
		l = append(l, 1|1<<i)
	}
	n := uint32(1)
	for range 30 {
		n = n*1664525 + 1013904223
		l = append(l, n|1)
	}
	return l
}

// P3.3: a burst anywhere behind the first byte is told, whatever stands behind the frame.
func TestBursts(t *testing.T) {
	for _, f := range rightFrames() {
		s := Make(f)
		for from := 8; from < 8*len(s); from++ {
			for _, burst := range bursts() {
				spoilt := turned(s, from, burst)
				if !refused(spoilt) || !refused(spoilt+s) {
					t.Fatalf("%v, burst %x at %d: opened", f, burst, from)
				}
			}
		}
	}
}

// P3.2, P3.3: a chain ends ahead of a frame that was spoilt.
func TestChainSpoilt(t *testing.T) {
	s, stand, _ := laid(0, []Frame{{1, 0, 1, "one"}, {1, 0, 2, "two"}, {1, 0, 3, "three"}})
	second := stand[1].At
	for from := 8 * (second + 1); from < 8*stand[2].At; from++ {
		l, end := (Rule{Epoch: 1}).Chain(turned(s, from, 1), 0, -1)
		if !slices.Equal(l, stand[:1]) || end != second {
			t.Fatalf("a bit turned at %d: %v, %d", from, l, end)
		}
	}
}

// P3.1: texts that were handed in aren't changed, their list neither.
func TestKeepsArguments(t *testing.T) {
	l := []string{"a", "b", "c", "spare"}
	Make(Frame{Data: "x"}, l[:3]...)
	Size(l[:3]...)
	if !slices.Equal(l, []string{"a", "b", "c", "spare"}) {
		t.Errorf("changed: %q", l)
	}
}

// Every call ends and none panics, whatever bytes it is given.
func FuzzOpen(f *testing.F) {
	for _, x := range rightFrames() {
		f.Add(Make(x))
	}
	f.Fuzz(func(t *testing.T, s string) {
		x, n, ok := Open(s)
		if !ok {
			if n != 0 || x != (Frame{}) {
				t.Fatalf("%v, %d beside false", x, n)
			}
			return
		}
		if Make(x) != s[:n] {
			t.Fatalf("Make(%v) isn't what was opened", x)
		}
		l, end := (Rule{Epoch: x.Epoch, Cut: x.At}).Chain(s, x.At, -1)
		if len(l) == 0 || l[0] != x || end < x.At+n {
			t.Fatalf("Chain: %v, %d", l, end)
		}
	})
}
