package clock

import (
	"math"
	"math/rand"
	"testing"

	"quadriga/api"
)

// greatest is the greatest number at which anything may stand: 2^62 - 1.
const greatest = 4611686018427387903

// wrongStreams is numbers that are none of a stream's, of four.
var wrongStreams = []int{math.MinInt, -2, -1, 4, 5, 8, 1 << 32, math.MaxInt}

// wantTick holds what a Tick and a Peek ahead of it answer against what is asked; a Peek changes nothing.
func wantTick(t *testing.T, c *Clock, stream, page, txn, n int, errno api.Errno) {
	t.Helper()
	ahead := seen(c)
	if got, e := c.Peek(stream, page, txn); got != n || e != errno {
		t.Errorf("Peek(%d, %d, %d): %d, %d, not %d, %d", stream, page, txn, got, e, n, errno)
	}
	wantSeen(t, "Peek", c, ahead)
	if got, e := c.Tick(stream, page, txn); got != n || e != errno {
		t.Errorf("Tick(%d, %d, %d): %d, %d, not %d, %d", stream, page, txn, got, e, n, errno)
	}
	if errno != api.OK {
		wantSeen(t, "Tick that answers an error", c, ahead)
	}
}

// sight is all that a clock tells of its streams, its first pages and transactions, and its top.
type sight struct {
	streams, pages, txns [10]int
	top                  int
}

// seen is what a clock tells.
func seen(c *Clock) sight {
	s := sight{top: c.Top()}
	for i := range 10 {
		s.streams[i], s.pages[i], s.txns[i] = c.Stream(i-1), c.Page(i-1), c.Txn(i-1)
	}
	return s
}

// wantSeen holds what a clock tells against what is asked.
func wantSeen(t *testing.T, what string, c *Clock, asked sight) {
	t.Helper()
	if got := seen(c); got != asked {
		t.Errorf("%s: %v, not %v", what, got, asked)
	}
}

// wantTimes holds the times of a stream, a page and a transaction, and the top, against what is asked.
func wantTimes(t *testing.T, c *Clock, stream, page, txn int, asked [4]int) {
	t.Helper()
	if got := [4]int{c.Stream(stream), c.Page(page), c.Txn(txn), c.Top()}; got != asked {
		t.Errorf("stream %d, page %d, transaction %d, and the top: %v, not %v", stream, page, txn, got, asked)
	}
}

// wantRaise holds what a Raise answers against what is asked.
func wantRaise(t *testing.T, c *Clock, errno api.Errno, n int, streams ...int) {
	t.Helper()
	ahead := seen(c)
	if got := c.Raise(n, streams...); got != errno {
		t.Errorf("Raise(%d, %v): %d, not %d", n, streams, got, errno)
	}
	if errno != api.OK {
		wantSeen(t, "Raise that answers an error", c, ahead)
	}
}

// P9.1: a clock has 1 to 8 streams, and all stand at 0 at first; others are none.
func TestNew(t *testing.T) {
	for _, streams := range []int{math.MinInt, -8, -1, 0, 9, 10, 1 << 32, math.MaxInt} {
		if New(streams) != nil {
			t.Errorf("New(%d): not nil", streams)
		}
	}
	for streams := 1; streams <= 8; streams++ {
		c := New(streams)
		if c == nil {
			t.Fatalf("New(%d): nil", streams)
		}
		wantSeen(t, "New", c, sight{})
		for stream := range 10 {
			n, errno := c.Peek(stream, -1, -1)
			if stream < streams && (n != 1 || errno != api.OK) || stream >= streams && (n != 0 || errno != api.ErrArg) {
				t.Errorf("Peek of %d, of %d streams: %d, %d", stream, streams, n, errno)
			}
		}
	}
}

// P9.1: the document's example.
func TestExample(t *testing.T) {
	c := New(2)
	wantTick(t, c, 0, 5, 1, 1, api.OK)
	wantTick(t, c, 1, 5, 2, 2, api.OK)
	wantTick(t, c, 0, 6, 3, 2, api.OK)
	wantTimes(t, c, 0, 5, 1, [4]int{2, 2, 1, 2})
	wantTimes(t, c, 1, 6, 3, [4]int{2, 2, 2, 2})
}

// P9.1: a tick is one more than the greatest of the three times, whichever it is, and all three stand at it then, nothing else does.
func TestTick(t *testing.T) {
	for greatestOf := range 3 {
		c := New(4)
		times := [3]int{2, 3, 4}
		times[greatestOf] = 9
		wantRaise(t, c, api.OK, times[0], 1)
		c.Turn(2, times[1])
		c.Turn(7, times[2])
		c.Sees(3, 7)
		c.Turn(7, 0)
		asked := seen(c)
		wantTick(t, c, 1, 2, 3, 10, api.OK)
		asked.streams[1+1], asked.pages[2+1], asked.txns[3+1], asked.top = 10, 10, 10, 10
		wantSeen(t, "Tick", c, asked)
	}
}

// P9.1: of a page or a transaction below 0 a tick is that of the others; streams, pages and transactions of one number aren't one.
func TestTickOfNone(t *testing.T) {
	for _, none := range []int{-1, -2, math.MinInt} {
		c := New(4)
		wantTick(t, c, 0, none, none, 1, api.OK)
		wantTimes(t, c, 0, none, none, [4]int{1, 0, 0, 1})
		wantTimes(t, c, 0, 0, 0, [4]int{1, 0, 0, 1})
		wantTick(t, c, 1, none, none, 1, api.OK)
		wantTick(t, c, 0, 0, none, 2, api.OK)
		wantTimes(t, c, 1, 0, none, [4]int{1, 2, 0, 2})
		wantTick(t, c, 1, none, 0, 2, api.OK)
		wantTick(t, c, 1, none, 0, 3, api.OK)
		wantTimes(t, c, 1, none, 0, [4]int{3, 0, 3, 3})
		wantTick(t, c, 2, 0, none, 3, api.OK)
		wantTick(t, c, 3, none, 0, 4, api.OK)
		wantTimes(t, c, 3, 0, 0, [4]int{4, 3, 4, 4})
	}
}

// P9.1: pages and transactions may have any numbers.
func TestAnyNumbers(t *testing.T) {
	c := New(1)
	wantTick(t, c, 0, math.MaxInt, 1<<40, 1, api.OK)
	wantTick(t, c, 0, 1<<40, math.MaxInt, 2, api.OK)
	wantTimes(t, c, 0, math.MaxInt, math.MaxInt, [4]int{2, 1, 2, 2})
	wantTimes(t, c, 0, 1<<40, 1<<40, [4]int{2, 2, 1, 2})
}

// P9.1: without such a stream there is no tick, whatever the others are; that is told ahead of what is too great.
func TestTickWithoutStream(t *testing.T) {
	c := New(4)
	wantTick(t, c, 3, 0, 0, 1, api.OK)
	c.Turn(1, greatest)
	for _, stream := range wrongStreams {
		for page := -1; page < 2; page++ {
			wantTick(t, c, stream, page, 0, 0, api.ErrArg)
		}
		wantTimes(t, c, stream, 0, 0, [4]int{0, 1, 1, greatest})
	}
}

// P9.1: the greatest tick is 2^62 - 1, whoever of the three stands ahead of it.
func TestTickTooGreat(t *testing.T) {
	for who := range 3 {
		c := New(4)
		switch who {
		case 0:
			wantRaise(t, c, api.OK, greatest-1, 2)
		case 1:
			c.Turn(2, greatest-1)
		case 2:
			c.Turn(5, greatest-1)
			c.Sees(2, 5)
		}
		wantTick(t, c, 2, 2, 2, greatest, api.OK)
		wantTick(t, c, 2, 2, 2, 0, api.ErrLong)
		wantTick(t, c, 2, -1, -1, 0, api.ErrLong)
		wantTick(t, c, 0, 2, -1, 0, api.ErrLong)
		wantTick(t, c, 0, -1, 2, 0, api.ErrLong)
		wantTick(t, c, 0, -1, -1, 1, api.OK)
		wantTimes(t, c, 2, 2, 2, [4]int{greatest, greatest, greatest, greatest})
	}
}

// P9.2: a transaction that sees a page stands at the greater of both times; the page stands where it stood.
func TestSees(t *testing.T) {
	c := New(2)
	c.Turn(1, 5)
	c.Sees(3, 1)
	wantTimes(t, c, 0, 1, 3, [4]int{0, 5, 5, 5})
	c.Turn(2, 4)
	c.Sees(3, 2)
	wantTimes(t, c, 0, 2, 3, [4]int{0, 4, 5, 5})
	c.Sees(3, 9)
	wantTimes(t, c, 0, 9, 3, [4]int{0, 0, 5, 5})
	c.Sees(0, 2)
	c.Turn(0, 7)
	c.Sees(3, 0)
	wantTimes(t, c, 0, 0, 0, [4]int{0, 7, 4, 7})
	ahead := seen(c)
	for _, none := range []int{-1, -5, math.MinInt} {
		c.Sees(none, 1)
		c.Sees(3, none)
		c.Sees(none, none)
		wantTimes(t, c, none, none, none, [4]int{0, 0, 0, 7})
	}
	wantSeen(t, "Sees of none", c, ahead)
	wantTick(t, c, 1, -1, 3, 8, api.OK)
}

// P9.2: streams that are raised stand at the greater of their times and the number; of none told, all are.
func TestRaise(t *testing.T) {
	c := New(4)
	wantRaise(t, c, api.OK, 5, 1, 3, 1)
	wantSeen(t, "Raise", c, sight{streams: [10]int{2: 5, 4: 5}, top: 5})
	wantRaise(t, c, api.OK, 3)
	wantSeen(t, "Raise", c, sight{streams: [10]int{1: 3, 2: 5, 3: 3, 4: 5}, top: 5})
	wantRaise(t, c, api.OK, 2, 0, 1)
	wantRaise(t, c, api.OK, 0)
	wantSeen(t, "Raise", c, sight{streams: [10]int{1: 3, 2: 5, 3: 3, 4: 5}, top: 5})
	wantRaise(t, c, api.OK, greatest, 0)
	wantSeen(t, "Raise", c, sight{streams: [10]int{1: greatest, 2: 5, 3: 3, 4: 5}, top: greatest})
	wantRaise(t, c, api.OK, 6, []int{}...)
	wantSeen(t, "Raise", c, sight{streams: [10]int{1: greatest, 2: 6, 3: 6, 4: 6}, top: greatest})
}

// P9.2: where one stream isn't there, or the number may not be, none is raised, and the top is as it was.
func TestRaiseWrong(t *testing.T) {
	c := New(4)
	for _, stream := range wrongStreams {
		wantRaise(t, c, api.ErrArg, 5, stream)
		wantRaise(t, c, api.ErrArg, 5, 0, stream)
		wantRaise(t, c, api.ErrArg, 5, stream, 0)
	}
	for _, n := range []int{math.MinInt, -1, greatest + 1, math.MaxInt} {
		wantRaise(t, c, api.ErrArg, n)
		wantRaise(t, c, api.ErrArg, n, 1)
		wantRaise(t, c, api.ErrArg, n, 9)
	}
	wantSeen(t, "Raise", c, sight{})
}

// Rule 4: of what is handed in neither the numbers nor the spare room behind them are changed.
func TestHandedIn(t *testing.T) {
	c := New(3)
	l := []int{2, 0, 7, 7}
	c.Raise(5, l[:2]...)
	c.Raise(5, l[:0]...)
	c.Drop(l[:2]...)
	c.Drop(l[:0]...)
	if [4]int(l) != [4]int{2, 0, 7, 7} {
		t.Errorf("%v", l)
	}
}

// P9.2: a page that is turned stands at the number, be it less than its time; the top goes by what was met.
func TestTurn(t *testing.T) {
	c := New(1)
	c.Turn(4, 7)
	wantTimes(t, c, 0, 4, 4, [4]int{0, 7, 0, 7})
	c.Turn(4, 3)
	wantTimes(t, c, 0, 4, 4, [4]int{0, 3, 0, 7})
	wantTick(t, c, 0, 4, -1, 4, api.OK)
	wantTimes(t, c, 0, 4, 4, [4]int{4, 4, 0, 7})
	c.Turn(4, 0)
	wantTimes(t, c, 0, 4, 4, [4]int{4, 0, 0, 7})
	ahead := seen(c)
	for _, n := range []int{math.MinInt, -1, greatest + 1, math.MaxInt} {
		c.Turn(4, n)
		c.Turn(-1, n)
	}
	for _, none := range []int{-1, -4, math.MinInt} {
		c.Turn(none, 9)
		wantTimes(t, c, 0, none, 0, [4]int{4, 0, 0, 7})
	}
	wantSeen(t, "Turn of none", c, ahead)
	c.Turn(0, greatest)
	wantTimes(t, c, 0, 0, 0, [4]int{4, greatest, 0, greatest})
}

// P9.2: transactions that are dropped stand at 0, and begin anew; nothing else does, and the top stays.
func TestDrop(t *testing.T) {
	c := New(1)
	for txn := range 5 {
		wantTick(t, c, 0, txn, txn, txn+1, api.OK)
	}
	asked := seen(c)
	c.Drop()
	c.Drop(-1, math.MinInt, 77, math.MaxInt)
	wantSeen(t, "Drop of none", c, asked)
	c.Drop(4, 1, 4)
	asked.txns[4+1], asked.txns[1+1] = 0, 0
	wantSeen(t, "Drop", c, asked)
	c.Sees(4, 0)
	wantTimes(t, c, 0, 0, 4, [4]int{5, 1, 1, 5})
}

// Rule 8 of the language: what stands at 0 isn't kept, so that a clock's memory goes by those that stand elsewhere.
func TestKept(t *testing.T) {
	c := New(1)
	for i := range 1000 {
		c.Sees(i, i)
		c.Turn(i, 0)
		c.Tick(0, i, i)
		c.Drop(i)
		c.Turn(i, 0)
	}
	if len(c.pages)+len(c.txns) != 0 {
		t.Errorf("%d pages, %d transactions are kept", len(c.pages), len(c.txns))
	}
}

// wantNothing holds that a clock tells nothing, and takes nothing.
func wantNothing(t *testing.T, c *Clock) {
	t.Helper()
	for i := -1; i < 3; i++ {
		c.Sees(i, i)
		c.Turn(i, 5)
		c.Drop(i)
		wantTick(t, c, i, i, i, 0, api.ErrArg)
		wantRaise(t, c, api.ErrArg, 5, i)
	}
	c.Drop()
	wantRaise(t, c, api.ErrArg, 5)
	wantSeen(t, "of a clock that is none", c, sight{})
}

// P9.2: of a nil clock: ErrArg, 0, nothing. (Rule 5: one that no maker answered doesn't panic.)
func TestNil(t *testing.T) {
	wantNothing(t, nil)
	wantNothing(t, &Clock{})
}

// model is a clock by plain lists: of streams, pages and transactions.
type model struct {
	times [3][6]int
	top   int
}

// at is where one of a kind stands; 0 of one below 0.
func (m *model) at(kind, no int) int {
	if no < 0 {
		return 0
	}
	return m.times[kind][no]
}

// put lets one of a kind stand at a number.
func (m *model) put(kind, no, n int) {
	if no >= 0 {
		m.times[kind][no] = n
		m.top = max(m.top, n)
	}
}

// P9.1, P9.2: many calls, held against a plain model.
func TestCalls(t *testing.T) {
	for seed := range 50 {
		r := rand.New(rand.NewSource(int64(seed)))
		streams := 1 + r.Intn(6)
		c, m := New(streams), &model{}
		for range 400 {
			stream, page, txn, n := r.Intn(streams), r.Intn(7)-1, r.Intn(7)-1, r.Intn(40)
			switch r.Intn(6) {
			case 0, 1:
				tick := 1 + max(m.at(0, stream), m.at(1, page), m.at(2, txn))
				wantTick(t, c, stream, page, txn, tick, api.OK)
				m.put(0, stream, tick)
				m.put(1, page, tick)
				m.put(2, txn, tick)
			case 2:
				c.Sees(txn, page)
				if page >= 0 {
					m.put(2, txn, max(m.at(2, txn), m.at(1, page)))
				}
			case 3:
				c.Turn(page, n)
				m.put(1, page, n)
			case 4:
				wantRaise(t, c, api.OK, n, stream)
				m.put(0, stream, max(m.at(0, stream), n))
			case 5:
				c.Drop(txn)
				m.put(2, txn, 0)
			}
			for i := -1; i < 6; i++ {
				wantTimes(t, c, i, i, i, [4]int{m.at(0, i), m.at(1, i), m.at(2, i), m.top})
			}
			if t.Failed() {
				t.Fatalf("seed %d", seed)
			}
		}
	}
}

// P9.3: ticks of one stream, of one page, of one transaction rise; one behind a Sees is above all of that page ahead of it.
func TestTicksRise(t *testing.T) {
	for seed := range 50 {
		r := rand.New(rand.NewSource(int64(seed)))
		c := New(4)
		var streams [4]int
		var pages, txns, saw [5]int
		for range 300 {
			stream, page, txn := r.Intn(4), r.Intn(5), r.Intn(5)
			if r.Intn(3) == 0 {
				c.Sees(txn, page)
				saw[txn] = max(saw[txn], pages[page])
				continue
			}
			n, errno := c.Tick(stream, page, txn)
			if errno != api.OK || n <= streams[stream] || n <= pages[page] || n <= txns[txn] || n <= saw[txn] {
				t.Fatalf("seed %d: %d, of stream %d, page %d, transaction %d, that saw %d", seed, n, streams[stream], pages[page], txns[txn], saw[txn])
			}
			streams[stream], pages[page], txns[txn] = n, n, n
		}
	}
}
