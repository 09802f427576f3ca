package record

import (
	"math"
	"slices"
	"strings"
	"testing"

	"quadriga/api"
)

// The document's limits, written out: taken from the package, a wrong one would hold against itself.
const (
	lastTxn    = 2147483647
	lastNumber = 4611686018427387903
)

// rightRecords are records that are right, with the edges of each part.
func rightRecords() []api.Record {
	eight, sixteen := "\x00\xffkey\x0a \x7f", strings.Repeat("\xfe", 16)
	return []api.Record{
		{Kind: api.KBegin, Gsn: 7, Txn: 3},
		{Kind: api.KBegin, Gsn: 1, Txn: 1},
		{Kind: api.KBegin, Gsn: lastNumber, Txn: lastTxn},
		{Kind: api.KUpdate, Txn: 3, Gsn: 9, Prev: 4, Page: 2, Key: "k", After: Has("")},
		{Kind: api.KUpdate, Txn: 3, Gsn: 9, Prev: 8, Page: 0, Key: "k", Before: Has("")},
		{Kind: api.KUpdate, Txn: 1, Gsn: 2, Prev: 1, Page: 63, Key: eight, Before: Has("a"), After: Has("b")},
		{Kind: api.KUpdate, Txn: lastTxn, Gsn: lastNumber, Prev: lastNumber - 1, Page: 63, Key: eight, Before: Has(sixteen), After: Has(sixteen[1:])},
		{Kind: api.KUpdate, Txn: 1, Gsn: 2, Prev: 1, Key: "\x00", Before: Has(""), After: Has("\x00")},
		{Kind: api.KClr, Txn: 3, Gsn: 9, Prev: 4, Page: 2, Key: "k", Before: Has("x"), Undo: 4},
		{Kind: api.KClr, Txn: 3, Gsn: 9, Prev: 4, Page: 62, Key: "kk", After: Has("x"), Undo: 1},
		{Kind: api.KClr, Txn: lastTxn, Gsn: lastNumber, Prev: lastNumber - 1, Page: 63, Key: eight, Before: Has(sixteen), After: Has(""), Undo: lastNumber - 1},
		{Kind: api.KSave, Txn: 5, Gsn: 6, Prev: 5},
		{Kind: api.KSave, Txn: 5, Gsn: 6, Prev: 1, Undo: 255},
		{Kind: api.KSave, Txn: 5, Gsn: 300, Prev: 1, Undo: 7},
		{Kind: api.KCommit, Txn: 5, Gsn: 2, Prev: 1},
		{Kind: api.KCommit, Txn: lastTxn, Gsn: lastNumber, Prev: lastNumber - 1},
		{Kind: api.KEnd, Txn: 258, Gsn: 65538, Prev: 65537},
	}
}

// with is a record with something else.
func with(r api.Record, change func(*api.Record)) api.Record {
	change(&r)
	return r
}

// wrongRecords are records that aren't right, each in one part alone.
func wrongRecords() []api.Record {
	var l []api.Record
	add := func(r api.Record, changes ...func(*api.Record)) {
		for _, change := range changes {
			l = append(l, with(r, change))
		}
	}
	begin := api.Record{Kind: api.KBegin, Gsn: 7, Txn: 3}
	end := api.Record{Kind: api.KEnd, Gsn: 7, Txn: 3, Prev: 5}
	update := api.Record{Kind: api.KUpdate, Txn: 3, Gsn: 9, Prev: 4, Page: 2, Key: "k", Before: Has("x"), After: Has("y")}
	clr := with(update, func(r *api.Record) { r.Kind, r.Undo = api.KClr, 4 })
	save := api.Record{Kind: api.KSave, Gsn: 7, Txn: 3, Prev: 5, Undo: 1}
	commit := with(end, func(r *api.Record) { r.Kind = api.KCommit })
	for _, r := range []api.Record{begin, end, update, clr, save, commit} {
		add(r,
			func(r *api.Record) { r.Kind = 0 },
			func(r *api.Record) { r.Kind = 7 },
			func(r *api.Record) { r.Kind = -1 },
			func(r *api.Record) { r.Kind += 256 },
			func(r *api.Record) { r.Kind = math.MaxInt },
			func(r *api.Record) { r.Txn = 0 },
			func(r *api.Record) { r.Txn = -1 },
			func(r *api.Record) { r.Txn = lastTxn + 1 },
			func(r *api.Record) { r.Txn = math.MaxInt },
			func(r *api.Record) { r.Gsn = 0 },
			func(r *api.Record) { r.Gsn = -1 },
			func(r *api.Record) { r.Gsn = lastNumber + 1 },
			func(r *api.Record) { r.Gsn = math.MaxInt },
			func(r *api.Record) { r.Gsn = math.MinInt },
			func(r *api.Record) { r.Prev = r.Gsn },
			func(r *api.Record) { r.Prev = r.Gsn + 1 },
			func(r *api.Record) { r.Prev = -1 },
			func(r *api.Record) { r.Prev = math.MinInt },
			func(r *api.Record) { r.Prev = math.MaxInt },
		)
	}
	add(begin, func(r *api.Record) { r.Prev = 1 })
	for _, r := range []api.Record{end, update, clr, save, commit} {
		add(r, func(r *api.Record) { r.Prev = 0 })
	}
	add(clr, func(r *api.Record) { r.Prev, r.Undo = 0, 0 })
	for _, r := range []api.Record{begin, end, save, commit} {
		add(r,
			func(r *api.Record) { r.Page = 1 },
			func(r *api.Record) { r.Page = -1 },
			func(r *api.Record) { r.Key = "k" },
			func(r *api.Record) { r.Before = Has("") },
			func(r *api.Record) { r.Before.S = "x" },
			func(r *api.Record) { r.After = Has("x") },
			func(r *api.Record) { r.After.S = "x" },
		)
	}
	for _, r := range []api.Record{update, clr} {
		add(r,
			func(r *api.Record) { r.Page = -1 },
			func(r *api.Record) { r.Page = 64 },
			func(r *api.Record) { r.Page = 256 },
			func(r *api.Record) { r.Page = math.MinInt },
			func(r *api.Record) { r.Key = "" },
			func(r *api.Record) { r.Key = "123456789" },
			func(r *api.Record) { r.Key = strings.Repeat("k", 257) },
			func(r *api.Record) { r.Before = r.After },
			func(r *api.Record) { r.Before, r.After = api.Val{}, api.Val{} },
			func(r *api.Record) { r.Before, r.After = Has(""), Has("") },
			func(r *api.Record) { r.Before = Has(strings.Repeat("x", 17)) },
			func(r *api.Record) { r.After = Has(strings.Repeat("x", 17)) },
			func(r *api.Record) { r.Before.Has = false },
			func(r *api.Record) { r.After.Has = false },
		)
	}
	for _, r := range []api.Record{begin, end, update, commit} {
		add(r,
			func(r *api.Record) { r.Undo = 1 },
			func(r *api.Record) { r.Undo = -1 },
			func(r *api.Record) { r.Undo = r.Prev + 5 },
		)
	}
	add(clr,
		func(r *api.Record) { r.Undo = 0 },
		func(r *api.Record) { r.Undo = -1 },
		func(r *api.Record) { r.Undo = r.Prev + 1 },
		func(r *api.Record) { r.Undo = math.MaxInt },
	)
	add(save,
		func(r *api.Record) { r.Undo = -1 },
		func(r *api.Record) { r.Undo = 256 },
		func(r *api.Record) { r.Undo = math.MinInt },
	)
	return append(l, api.Record{})
}

// P4.1: one to eight bytes, any ones.
func TestKey(t *testing.T) {
	for _, c := range []struct {
		l   []string
		key bool
	}{
		{nil, true},
		{[]string{"k"}, true},
		{[]string{"12345678"}, true},
		{[]string{"\x00\xff\x00\xff\x00\xff\x00\xff"}, true},
		{[]string{"a", "bb", "\x00"}, true},
		{[]string{""}, false},
		{[]string{"123456789"}, false},
		{[]string{strings.Repeat("k", 264)}, false},
		{[]string{"a", "", "b"}, false},
		{[]string{"a", "b", "123456789"}, false},
		{[]string{"", "a"}, false},
	} {
		if key := Key(c.l...); key != c.key {
			t.Errorf("Key(%q): %t", c.l, key)
		}
	}
}

// P4.1: at most sixteen bytes, or none.
func TestValue(t *testing.T) {
	for _, c := range []struct {
		l     []api.Val
		value bool
	}{
		{nil, true},
		{[]api.Val{{}}, true},
		{[]api.Val{Has("")}, true},
		{[]api.Val{Has("\x00")}, true},
		{[]api.Val{Has(strings.Repeat("v", 16))}, true},
		{[]api.Val{{}, Has("a"), Has("")}, true},
		{[]api.Val{Has(strings.Repeat("v", 17))}, false},
		{[]api.Val{Has(strings.Repeat("v", 272))}, false},
		{[]api.Val{{Has: false, S: "a"}}, false},
		{[]api.Val{{Has: false, S: strings.Repeat("v", 17)}}, false},
		{[]api.Val{{}, {S: "a"}, Has("a")}, false},
		{[]api.Val{Has("a"), Has(strings.Repeat("v", 17))}, false},
	} {
		if value := Value(c.l...); value != c.value {
			t.Errorf("Value(%v): %t", c.l, value)
		}
	}
	for _, s := range []string{"", "v", strings.Repeat("v", 16)} {
		if v := Has(s); v != (api.Val{Has: true, S: s}) {
			t.Errorf("Has(%q): %v", s, v)
		}
	}
}

// P4.1: each part of each kind, at its edges.
func TestRight(t *testing.T) {
	good, bad := rightRecords(), wrongRecords()
	if !Right() || !Right(good...) {
		t.Error("right ones aren't")
	}
	for _, r := range good {
		if !Right(r) {
			t.Errorf("Right(%v): false", r)
		}
	}
	for _, r := range bad {
		if Right(r) || Right(good[0], r) || Right(r, good[0]) {
			t.Errorf("Right(%v): true", r)
		}
	}
}

// P4.1: the bytes of each kind, as the chapter words them.
func TestEncodeBytes(t *testing.T) {
	const nought = "\x00\x00\x00\x00\x00\x00\x00"
	for _, c := range []struct {
		r api.Record
		s string
	}{
		{api.Record{Kind: api.KBegin, Gsn: 7, Txn: 3}, "\x01\x00\x00\x00\x03" + nought + "\x00"},
		{api.Record{Kind: api.KUpdate, Txn: 0x01020304, Gsn: 999, Prev: 258, Page: 63, Key: "ab", Before: Has("x"), After: Has("yz")},
			"\x02\x01\x02\x03\x04\x00\x00\x00\x00\x00\x00\x01\x02\x3f\x02ab\x02x\x03yz"},
		{api.Record{Kind: api.KUpdate, Txn: 1, Gsn: 2, Prev: 1, Page: 5, Key: "12345678", After: Has("")},
			"\x02\x00\x00\x00\x01" + nought + "\x01\x05\x0812345678\x00\x01"},
		{api.Record{Kind: api.KClr, Txn: 1, Gsn: lastNumber, Prev: 0x1112131415161718, Page: 5, Key: "k", Before: Has("0123456789abcdef"), Undo: 0x0102030405060708},
			"\x03\x00\x00\x00\x01\x11\x12\x13\x14\x15\x16\x17\x18\x05\x01k\x110123456789abcdef\x00\x01\x02\x03\x04\x05\x06\x07\x08"},
		{api.Record{Kind: api.KSave, Txn: 1, Gsn: 3, Prev: 2, Undo: 254}, "\x04\x00\x00\x00\x01" + nought + "\x02\xfe"},
		{api.Record{Kind: api.KCommit, Txn: 1, Gsn: 3, Prev: 2}, "\x05\x00\x00\x00\x01" + nought + "\x02"},
		{api.Record{Kind: api.KEnd, Txn: lastTxn, Gsn: 3, Prev: 2}, "\x06\x7f\xff\xff\xff" + nought + "\x02"},
	} {
		if s, e := Encode(c.r); s != c.s || e != api.OK {
			t.Errorf("Encode(%v): %x, %d", c.r, s, e)
		}
		if r, e := Decode(c.r.Gsn, c.s); r != c.r || e != api.OK {
			t.Errorf("Decode(%x): %v, %d", c.s, r, e)
		}
	}
}

// P4.1, P6: what is laid is read as it was; it fits into a frame.
func TestThereAndBack(t *testing.T) {
	for _, r := range rightRecords() {
		s, e := Encode(r)
		if e != api.OK || len(s) == 0 || len(s) > api.MaxData {
			t.Errorf("Encode(%v): %x, %d", r, s, e)
		}
		if got, e := Decode(r.Gsn, s); got != r || e != api.OK {
			t.Errorf("Decode(%x): %v, %d", s, got, e)
		}
	}
}

// P4.1: what isn't right has no bytes.
func TestEncodeRefused(t *testing.T) {
	for _, r := range wrongRecords() {
		if s, e := Encode(r); s != "" || e != api.ErrArg {
			t.Errorf("Encode(%v): %x, %d", r, s, e)
		}
	}
}

// refused tells whether bytes are none of a record with that Gsn, and all else is nothing.
func refused(gsn int, s string) bool {
	r, e := Decode(gsn, s)
	return r == api.Record{} && e == api.ErrForm
}

// P4.1: the Gsn isn't in the bytes, but must be right with them.
func TestDecodeGsn(t *testing.T) {
	for _, r := range rightRecords() {
		s, _ := Encode(r)
		for _, gsn := range []int{r.Prev + 1, lastNumber} {
			if got, e := Decode(gsn, s); got != with(r, func(r *api.Record) { r.Gsn = gsn }) || e != api.OK {
				t.Errorf("Decode(%d, %x): %v, %d", gsn, s, got, e)
			}
		}
		for _, gsn := range []int{r.Prev, 0, -1, math.MinInt, lastNumber + 1, math.MaxInt} {
			if !refused(gsn, s) {
				t.Errorf("Decode(%d, %x)", gsn, s)
			}
		}
	}
}

// P4.1: bytes that are too few, too many, or none of a right record.
func TestDecodeRefused(t *testing.T) {
	for _, r := range rightRecords() {
		s, _ := Encode(r)
		for n := range len(s) {
			if !refused(r.Gsn, s[:n]) {
				t.Errorf("Decode(%x)", s[:n])
			}
		}
		for _, behind := range []string{"\x00", "\xff", s, strings.Repeat("\x00", 300)} {
			if !refused(r.Gsn, s+behind) {
				t.Errorf("Decode(%x)", s+behind)
			}
		}
	}
	const txn, prev = "\x00\x00\x00\x01", "\x00\x00\x00\x00\x00\x00\x00\x05"
	const undo = "\x00\x00\x00\x00\x00\x00\x00\x05"
	long := strings.Repeat("x", 254)
	for _, s := range []string{
		"",
		"\x00" + txn + prev,
		"\x07" + txn + prev,
		"\xff" + txn + prev,
		"\x01" + txn + prev,
		"\x05" + txn + "\x00\x00\x00\x00\x00\x00\x00\x00",
		"\x05\x00\x00\x00\x00" + prev,
		"\x05\x80\x00\x00\x00" + prev,
		"\x05\xff\xff\xff\xff" + prev,
		"\x05" + txn + "\x40\x00\x00\x00\x00\x00\x00\x00",
		"\x05" + txn + "\x80\x00\x00\x00\x00\x00\x00\x05",
		"\x05" + txn + "\xff\xff\xff\xff\xff\xff\xff\xff",
		"\x02" + txn + prev + "\x40\x01k\x00\x01",
		"\x02" + txn + prev + "\xff\x01k\x00\x01",
		"\x02" + txn + prev + "\x01\x00\x00\x01",
		"\x02" + txn + prev + "\x01\x09123456789\x00\x01",
		"\x02" + txn + prev + "\x01\xff" + long + "x\x00\x01",
		"\x02" + txn + prev + "\x01\x01k\x00\x00",
		"\x02" + txn + prev + "\x01\x01k\x01\x01",
		"\x02" + txn + prev + "\x01\x01k\x02x\x02x",
		"\x02" + txn + prev + "\x01\x01k\x1201234567890123456\x00",
		"\x02" + txn + prev + "\x01\x01k\x00\x1201234567890123456",
		"\x02" + txn + prev + "\x01\x01k\x00\xff" + long,
		"\x02" + txn + prev + "\x01\x01k\x00\x05abc",
		"\x02" + txn + prev + "\x01\x01k\x00\x01" + undo,
		"\x03" + txn + prev + "\x01\x01k\x00\x01",
		"\x03" + txn + prev + "\x01\x01k\x00\x01\x05",
		"\x03" + txn + prev + "\x01\x01k\x00\x01\x00\x00\x00\x00\x00\x00\x00\x00",
		"\x03" + txn + prev + "\x01\x01k\x00\x01\x00\x00\x00\x00\x00\x00\x00\x06",
		"\x03" + txn + prev + "\x01\x01k\x00\x01\x80\x00\x00\x00\x00\x00\x00\x05",
		"\x04" + txn + prev,
		"\x04" + txn + prev + "\x00\x00",
		"\x04" + txn + prev + undo,
		"\x06" + txn + prev + "\x00",
	} {
		if !refused(9, s) {
			t.Errorf("Decode(%x)", s)
		}
	}
}

// P4.1: of any bytes there is one record, or none: what is decoded has just these bytes.
func TestDecodeAny(t *testing.T) {
	decoded := 0
	for _, r := range rightRecords() {
		s, _ := Encode(r)
		for at := range len(s) {
			for b := range 256 {
				other := s[:at] + string([]byte{byte(b)}) + s[at+1:]
				got, e := Decode(r.Gsn, other)
				if e != api.OK {
					if got != (api.Record{}) || e != api.ErrForm || other == s {
						t.Fatalf("Decode(%x): %v, %d", other, got, e)
					}
					continue
				}
				decoded++
				if again, e := Encode(got); again != other || e != api.OK || got.Gsn != r.Gsn {
					t.Fatalf("Decode(%x): %v", other, got)
				}
			}
		}
	}
	if decoded < 1000 {
		t.Errorf("only %d were decoded", decoded)
	}
}

// P4.2: the values changed with one another, the number of what is taken back.
func TestBack(t *testing.T) {
	for _, r := range rightRecords() {
		if r.Kind != api.KUpdate || r.Gsn == lastNumber {
			continue
		}
		for _, c := range [][2]int{{r.Gsn + 1, r.Gsn}, {r.Gsn + 10, r.Gsn + 9}, {lastNumber, r.Gsn}, {lastNumber, lastNumber - 1}} {
			want := api.Record{Kind: api.KClr, Gsn: c[0], Txn: r.Txn, Prev: c[1], Page: r.Page, Key: r.Key, Before: r.After, After: r.Before, Undo: r.Gsn}
			if got := Back(r, c[0], c[1]); got != want || !Right(got) {
				t.Errorf("Back(%v, %v): %v", r, c, got)
			}
		}
	}
}

// P4.2: nothing of what isn't right, is of another kind, or comes to what isn't right.
func TestBackRefused(t *testing.T) {
	for _, r := range rightRecords() {
		if back := Back(r, lastNumber, lastNumber-1); r.Kind != api.KUpdate && back != (api.Record{}) {
			t.Errorf("Back(%v): %v", r, back)
		}
	}
	for _, r := range wrongRecords() {
		if back := Back(r, lastNumber, lastNumber-1); back != (api.Record{}) {
			t.Errorf("Back(%v): %v", r, back)
		}
	}
	r := api.Record{Kind: api.KUpdate, Txn: 3, Gsn: 9, Prev: 4, Page: 2, Key: "k", After: Has("")}
	for _, c := range [][2]int{{9, 9}, {9, 8}, {10, 8}, {10, 10}, {10, 11}, {10, 0}, {10, -1}, {0, 0}, {-1, 9}, {lastNumber + 1, 9}, {math.MaxInt, 9}, {math.MinInt, math.MaxInt}} {
		if back := Back(r, c[0], c[1]); back != (api.Record{}) {
			t.Errorf("Back(%v, %v): %v", r, c, back)
		}
	}
	last := with(r, func(r *api.Record) { r.Gsn = lastNumber })
	if back := Back(last, lastNumber, lastNumber); back != (api.Record{}) {
		t.Errorf("Back of the last: %v", back)
	}
}

// P4.3: each kind in words.
func TestPrint(t *testing.T) {
	for _, c := range []struct {
		r    api.Record
		want string
	}{
		{api.Record{Kind: api.KBegin, Gsn: 7, Txn: 3}, "begin 3 7 0"},
		{api.Record{Kind: api.KBegin, Gsn: lastNumber, Txn: lastTxn}, "begin 2147483647 4611686018427387903 0"},
		{api.Record{Kind: api.KUpdate, Txn: 3, Gsn: 9, Prev: 4, Page: 2, Key: "k", After: Has("")}, "update 3 9 4 2 6b - v"},
		{api.Record{Kind: api.KUpdate, Txn: 3, Gsn: 9, Prev: 4, Page: 63, Key: "\x00\x0f\xf0\xff", Before: Has("\xab\xcd"), After: Has("\x09")}, "update 3 9 4 63 000ff0ff vabcd v09"},
		{api.Record{Kind: api.KUpdate, Txn: 3, Gsn: 9, Prev: 4, Page: 10, Key: "k", Before: Has("x")}, "update 3 9 4 10 6b v78 -"},
		{api.Record{Kind: api.KClr, Txn: 30, Gsn: 90, Prev: 40, Page: 0, Key: "kL", Before: Has(""), After: Has("yes"), Undo: 12}, "clr 30 90 40 0 6b4c v v796573 12"},
		{api.Record{Kind: api.KSave, Txn: 5, Gsn: 6, Prev: 1, Undo: 255}, "save 5 6 1 255"},
		{api.Record{Kind: api.KSave, Txn: 5, Gsn: 6, Prev: 1}, "save 5 6 1 0"},
		{api.Record{Kind: api.KCommit, Txn: 5, Gsn: 20, Prev: 10}, "commit 5 20 10"},
		{api.Record{Kind: api.KEnd, Txn: 5, Gsn: 21, Prev: 20}, "end 5 21 20"},
	} {
		if s := Print(c.r); s != c.want {
			t.Errorf("Print(%v): %q", c.r, s)
		}
	}
}

// P4.3: nothing of what isn't right.
func TestPrintRefused(t *testing.T) {
	for _, r := range wrongRecords() {
		if s := Print(r); s != "" {
			t.Errorf("Print(%v): %q", r, s)
		}
	}
}

// P4.1: what is handed in isn't changed.
func TestKeepsArguments(t *testing.T) {
	keys, values, records := []string{"a", "", "b"}, []api.Val{{}, {S: "x"}, Has("y")}, wrongRecords()
	Key(keys...)
	Value(values...)
	Right(records...)
	if !slices.Equal(keys, []string{"a", "", "b"}) || !slices.Equal(values, []api.Val{{}, {S: "x"}, Has("y")}) || !slices.Equal(records, wrongRecords()) {
		t.Error("changed")
	}
}

// Every call ends and none panics, whatever bytes it is given.
func FuzzDecode(f *testing.F) {
	for _, r := range rightRecords() {
		s, _ := Encode(r)
		f.Add(r.Gsn, s)
	}
	f.Fuzz(func(t *testing.T, gsn int, s string) {
		r, e := Decode(gsn, s)
		if e != api.OK {
			if e != api.ErrForm || r != (api.Record{}) {
				t.Fatalf("%v, %d", r, e)
			}
			return
		}
		if again, e := Encode(r); again != s || e != api.OK || r.Gsn != gsn || Print(r) == "" {
			t.Fatalf("%v, %x", r, again)
		}
	})
}
