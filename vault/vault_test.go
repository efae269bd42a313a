package vault_test

import (
	"bytes"
	"math"
	"math/rand"
	"slices"
	"strings"
	"testing"

	"annulet/api"
	"annulet/disk"
	"annulet/vault"
)

// value is a text of n bytes, of which none is 0 and no two next to each other are alike.
func value(n int, from byte) string {
	b := make([]byte, n)
	for i := range b {
		b[i] = byte(1 + (int(from)+i)%251)
	}
	return string(b)
}

func item(key byte, n int64, who byte, value string) api.Item {
	return api.Item{Key: small(key), Ver: api.Ver{N: n, Who: small(who)}, Value: []byte(value)}
}

// edgeIDs are identities whose order hangs on their first byte, on their last, or on all.
func edgeIDs() []api.ID {
	full := api.ID{}
	for i := range full {
		full[i] = 255
	}
	return []api.ID{{}, small(1), small(5), small(255), {14: 1}, {0: 1}, {0: 1, 15: 1}, {0: 127, 15: 255}, {0: 128}, {7: 1}, {8: 1}, full}
}

// edgeNs are numbers of versions: such as may be, and such as may not.
func edgeNs() []int64 {
	return []int64{1, 2, 255, 256, 1 << 32, 1<<32 + 1, lastN - 1, lastN, 0, -1, -2, lastN + 1, lastN + 2, math.MaxInt64, math.MinInt64, math.MinInt64 + 1, -lastN}
}

func pick[T any](r *rand.Rand, l []T) T { return l[r.Intn(len(l))] }

// lists goes over all lists of at most so many of a pool: in every order, with doubles.
func lists[T any](pool []T, longest int, each func(l []T)) {
	var grow func(l []T)
	grow = func(l []T) {
		each(l)
		if len(l) == longest {
			return
		}
		for _, x := range pool {
			grow(append(slices.Clone(l), x))
		}
	}
	grow(nil)
}

// P18.1: the chapter's example, with the bytes on the disk written out.
func TestExample(t *testing.T) {
	d := disk.New(8)
	v, e := vault.Open(d)
	if e != api.OK || v.Inc() != 1 || v.Down() || len(v.All()) != 0 {
		t.Fatal(v, e)
	}
	k := small(5)
	x, e := v.Put(k, []byte("a"), small(7))
	if e != api.OK || !same(x, item(5, 1, 7, "a")) {
		t.Fatal(x, e)
	}
	v, e = vault.Open(d)
	if e != api.OK || v.Inc() != 2 {
		t.Fatal(v.Inc(), e)
	}
	if x, ok := v.Get(k); !ok || !same(x, item(5, 1, 7, "a")) {
		t.Fatal(x, ok)
	}
	if ok, e := v.Merge(item(5, 1, 6, "b")); ok || e != api.OK {
		t.Fatal(ok, e)
	}
	if ok, e := v.Merge(item(5, 1, 8, "c")); !ok || e != api.OK {
		t.Fatal(ok, e)
	}
	if l := v.All(); len(l) != 1 || !same(l[0], item(5, 1, 8, "c")) {
		t.Fatal(l)
	}
	id := func(n string) string { return strings.Repeat("\x00", 15) + n }
	want := headText(4, 4, 4) + headText(3, 3, 3) +
		filled("\x00\x04\x01\x01\x01\x01") +
		filled("\x00\x27\x01\x02"+id("\x05")+"\x01\x01"+id("\x07")+"\x01\x01a") +
		filled("\x00\x04\x01\x01\x01\x02") +
		filled("\x00\x27\x01\x02"+id("\x05")+"\x01\x01"+id("\x08")+"\x01\x01c") +
		noughts(2)
	if string(d.Bytes()) != want {
		t.Fatalf("on the disk %x, wanted %x", d.Bytes(), want)
	}
}

// P18.1: of all pairs of versions at edges; of two unlike ones just one is newer, and what is newer than a newer one is newer.
func TestNewer(t *testing.T) {
	var vers []api.Ver
	for _, n := range edgeNs() {
		for _, who := range edgeIDs() {
			vers = append(vers, api.Ver{N: n, Who: who})
		}
	}
	for _, a := range vers {
		for _, b := range vers {
			if got := vault.Newer(a, b); got != toldNewer(a, b) {
				t.Fatal(a, b, got)
			}
			if one := vault.Newer(a, b) != vault.Newer(b, a); one != (a != b) {
				t.Fatal(a, b, "neither is newer, or both")
			}
		}
	}
	for _, c := range []struct {
		a, b api.Ver
		want bool
	}{
		{api.Ver{}, api.Ver{}, false},
		{api.Ver{N: 1}, api.Ver{}, true},
		{api.Ver{N: 2, Who: small(1)}, api.Ver{N: 1, Who: small(9)}, true},
		{api.Ver{N: 1, Who: small(9)}, api.Ver{N: 2, Who: small(1)}, false},
		{api.Ver{N: 1, Who: small(2)}, api.Ver{N: 1, Who: small(1)}, true},
		{api.Ver{N: 1, Who: small(1)}, api.Ver{N: 1, Who: small(1)}, false},
		{api.Ver{N: 1, Who: api.ID{1}}, api.Ver{N: 1, Who: small(255)}, true},
		{api.Ver{N: 1, Who: api.ID{128}}, api.Ver{N: 1, Who: api.ID{127}}, true},
		{api.Ver{N: 0}, api.Ver{N: -1, Who: api.ID{255}}, true},
		{api.Ver{N: math.MaxInt64}, api.Ver{N: math.MinInt64}, true},
		{api.Ver{N: math.MinInt64}, api.Ver{N: math.MaxInt64}, false},
	} {
		if got := vault.Newer(c.a, c.b); got != c.want {
			t.Error(c.a, c.b, got)
		}
	}
}

// P18.1: an item's record, at every edge of the number and at every length of the value, also such as no vault keeps.
func TestForm(t *testing.T) {
	for _, n := range append([]int64{0, 127, 128, 65535, 65536, 1<<56 - 1, 1 << 56}, edgeNs()...) {
		for _, key := range edgeIDs() {
			x := api.Item{Key: key, Ver: api.Ver{N: n, Who: api.ID{3: ^key[0]}}, Value: []byte("a")}
			got := vault.Form(x)
			if n >= 0 && string(got) != textOf(x) {
				t.Fatalf("Form(%v) is %x", x, got)
			}
		}
	}
	for n := range 70 {
		x := item(5, 300, 7, value(n, byte(n)))
		if got := vault.Form(x); string(got) != textOf(x) {
			t.Fatalf("Form(%v) is %x", x, got)
		}
	}
	for _, n := range []int{255, 256, 1024, 65536} {
		x := item(5, 0, 7, value(n, 3))
		if got := vault.Form(x); string(got) != textOf(x) {
			t.Fatal("another form of a long value:", n)
		}
	}
	// R4
	nothing := api.Item{Value: []byte{}}
	if !bytes.Equal(vault.Form(nothing), vault.Form(api.Item{})) || string(vault.Form(nothing)) != "\x01\x02"+strings.Repeat("\x00", 34) {
		t.Error("no value isn't an empty one")
	}
}

// P18.1: layer 6's errors go ahead of all others.
func TestNoLog(t *testing.T) {
	if v, e := vault.Open(nil); v != nil || e != api.ErrArg {
		t.Error(v, e)
	}
	for size := range 6 {
		for _, fill := range []byte{0, 1, 255} {
			text := strings.Repeat(string([]byte{fill}), 64*size)
			for _, power := range []int{-1, 0, 1, 2} {
				want := api.OK
				switch {
				case size < 3:
					want = api.ErrArg
				case power == 0 || power == 1:
					want = api.ErrDown
				}
				b := on(t, text)
				b.power(power)
				if e := b.open(); e != want {
					t.Error(size, fill, power, e)
				}
			}
		}
	}
	for _, text := range []string{
		headText(1<<63, 0, 0) + noughts(5),
		headText(2, 9, 1) + noughts(5),
		headText(2, 1, 2) + noughts(5),
		headText(2, 2, 1) + noughts(1) + recText(beginningText(1)) + noughts(3),
		headText(2, 1, 1) + noughts(1) + filled("\x04\x01\x01\x01\x01\x01") + noughts(3),
	} {
		if e := on(t, text).open(); e != api.ErrForm {
			t.Errorf("%x: %v", text, e)
		}
	}
}

// rightRecords may stand anywhere in a log that has no beginning yet.
func rightRecords() []string {
	l := []string{beginningText(1), beginningText(2), beginningText(255), beginningText(256), beginningText(1<<20 - 2), beginningText(1<<20 - 1), beginningText(1 << 20)}
	for _, n := range []uint64{1, 2, 255, 256, lastN - 1, lastN} {
		l = append(l, itemText(small(5), n, small(7), "a"))
	}
	for _, n := range []int{0, 1, 2, 62, 63, 64} {
		l = append(l, itemText(small(5), 1, small(7), value(n, 9)))
	}
	for _, id := range edgeIDs() {
		l = append(l, itemText(id, 1, id, ""))
	}
	return l
}

// wrongRecords may stand in none.
func wrongRecords() []string {
	id := strings.Repeat("\x05", 16)
	l := []string{
		"", "\x00", "\x01", "\x01\x00", "\x01\x01", "\x01\x02", "\x01\x03", "\x08", "\x09", "\xff",
		"\x00" + numText(1), numText(3) + numText(1), numText(0) + numText(1), numText(256) + numText(1),
		numText(math.MaxUint64) + numText(1), numText(1<<32+1) + numText(1), numText(257) + numText(1),
		// Numbers that aren't told in the one way.
		"\x02\x00\x01" + numText(1), "\x01\x01" + "\x02\x00\x01", "\x01\x01" + "\x01\x00", "\x01\x01" + "\x09",
		"\x02\x00\x02" + id + numText(1) + id + numText(0),
		numText(2) + id + "\x02\x00\x01" + id + numText(0),
		numText(2) + id + numText(1) + id + "\x01\x00",
		numText(2) + id + numText(1) + id + "\x02\x00\x01a",
		numText(2) + id + "\x09" + id + numText(0),
		numText(2) + id + numText(1) + id + "\x09",
		// A value that is longer or shorter than it says.
		numText(2) + id + numText(1) + id + numText(2) + "a",
		numText(2) + id + numText(1) + id + numText(0) + "a",
		numText(2) + id + numText(1) + id + numText(math.MaxUint64) + "a",
		numText(2) + id + numText(1) + id + numText(1<<63) + "a",
		numText(2) + id + numText(1) + id + numText(1<<32+1) + "a",
		// An item behind the mark of a beginning, and the other way.
		numText(1) + id + numText(1) + id + numText(0),
		numText(2) + numText(1),
	}
	for _, n := range []uint64{0, 1<<20 + 1, 1<<20 + 2, 1 << 21, 1 << 32, 1<<32 + 1, 1<<63 - 1, 1 << 63, 1<<63 + 1, math.MaxUint64} {
		l = append(l, beginningText(n))
	}
	for _, n := range []uint64{0, lastN + 1, lastN + 2, 1<<63 - 1, 1 << 63, 1<<63 + 1, math.MaxUint64} {
		l = append(l, itemText(small(5), n, small(7), "a"))
	}
	for _, n := range []int{65, 66, 255, 256, 900} {
		l = append(l, itemText(small(5), 1, small(7), value(n, 9)))
	}
	return l
}

// P18.1: each record that may be, alone, and the same cut short anywhere, or with bytes behind it.
func TestRightRecords(t *testing.T) {
	for _, rec := range rightRecords() {
		want := api.OK
		if rec == beginningText(1<<20) {
			want = api.ErrFull
		}
		if e := on(t, logText(10, rec)).open(); e != want {
			t.Fatalf("%x: %v", rec, e)
		}
		for cut := range len(rec) {
			if e := on(t, logText(10, rec[:cut])).open(); e != api.ErrForm {
				t.Fatalf("%x cut short at %d: %v", rec, cut, e)
			}
		}
		for _, behind := range []string{"\x00", "a", "\xff", "\x00\x00", rec, beginningText(9)} {
			if e := on(t, logText(20, rec+behind)).open(); e != api.ErrForm {
				t.Fatalf("%x with %x behind it: %v", rec, behind, e)
			}
		}
	}
}

// P18.1: each record that may not be, alone, and behind, between and ahead of such as may; nothing is written then.
func TestWrongRecords(t *testing.T) {
	one, two := beginningText(1), beginningText(2)
	x := itemText(small(5), 1, small(7), "a")
	for _, rec := range wrongRecords() {
		for _, recs := range [][]string{{rec}, {one, rec}, {x, rec}, {rec, one}, {rec, x}, {one, rec, two}, {one, x, rec}, {rec, rec}} {
			for _, power := range []int{-1, 0} {
				b := on(t, logText(40, recs...))
				b.power(power)
				if e := b.open(); e != api.ErrForm || b.d.Done() != 0 {
					t.Fatalf("%x: %v", recs, e)
				}
			}
		}
	}
}

// P18.1: each byte of a log's records replaced by others.
func TestBytesOfRecords(t *testing.T) {
	text := logText(8, beginningText(3), itemText(small(5), 300, small(7), "abc"), beginningText(256), itemText(small(5), 301, small(7), ""))
	for at := range text {
		for _, c := range []byte{0, 1, 2, 3, 4, 8, 9, 16, 64, 65, 127, 128, 255} {
			b := on(t, text[:at]+string([]byte{c})+text[at+1:])
			if b.open() == api.OK {
				b.put(small(5), "next", small(1))
			}
		}
	}
}

// P18.1: each beginning is above all those ahead of it, wherever the items stand.
func TestBeginningsInOrder(t *testing.T) {
	x := itemText(small(5), 1, small(7), "a")
	for i, c := range []struct {
		numbers []uint64
		e       api.Errno
		inc     int64
	}{
		{nil, api.OK, 1},
		{[]uint64{0}, api.ErrForm, 0},
		{[]uint64{1}, api.OK, 2},
		{[]uint64{7}, api.OK, 8},
		{[]uint64{1, 2}, api.OK, 3},
		{[]uint64{1, 9}, api.OK, 10},
		{[]uint64{1, 1}, api.ErrForm, 0},
		{[]uint64{2, 1}, api.ErrForm, 0},
		{[]uint64{1, 0}, api.ErrForm, 0},
		{[]uint64{0, 1}, api.ErrForm, 0},
		{[]uint64{5, 6, 5}, api.ErrForm, 0},
		{[]uint64{5, 6, 6}, api.ErrForm, 0},
		{[]uint64{5, 9, 8}, api.ErrForm, 0}, // not only above the first one
		{[]uint64{9, 5, 6}, api.ErrForm, 0}, // not only above the one just ahead
		{[]uint64{255, 256}, api.OK, 257},
		{[]uint64{256, 255}, api.ErrForm, 0},
		{[]uint64{1<<20 - 2}, api.OK, 1<<20 - 1},
		{[]uint64{1<<20 - 1}, api.OK, 1 << 20},
		{[]uint64{1 << 20}, api.ErrFull, 0},
		{[]uint64{1, 1 << 20}, api.ErrFull, 0},
		{[]uint64{1 << 20, 1}, api.ErrForm, 0},
		{[]uint64{1 << 20, 1 << 20}, api.ErrForm, 0},
		{[]uint64{1 << 20, 1<<20 + 1}, api.ErrForm, 0},
		{[]uint64{1<<20 + 1}, api.ErrForm, 0},
	} {
		for _, between := range []bool{false, true} {
			var recs []string
			for _, n := range c.numbers {
				recs = append(recs, beginningText(n))
				if between {
					recs = append(recs, x)
				}
			}
			b := on(t, logText(12, recs...))
			if e := b.open(); e != c.e || b.v.Inc() != c.inc {
				t.Error(i, c.numbers, "answers", b.v.Inc(), e)
			}
		}
	}
}

// P18.1, R6: of all that is wrong with an Open the first counts, and nothing is written ahead of the beginning's record.
func TestOpenFirstCounts(t *testing.T) {
	last, wrong := beginningText(1<<20), "\x01\x03"
	x := itemText(small(5), 1, small(7), "a")
	for i, c := range []struct {
		text  string
		power int
		e     api.Errno
	}{
		{logText(6, last, wrong), -1, api.ErrForm},
		{logText(6, wrong, last), -1, api.ErrForm},
		{logText(4, last, wrong), 0, api.ErrForm}, // the log is full, too
		{logText(6, last, x), -1, api.ErrFull},    // behind the last beginning there are items
		{logText(6, last), 0, api.ErrFull},        // and not ErrDown
		{logText(3, last), 0, api.ErrFull},
		{logText(4, beginningText(1), x), -1, api.ErrFull}, // no sector is left
		{logText(4, beginningText(1), x), 0, api.ErrFull},
		{logText(5, beginningText(1), x), -1, api.OK},
		{logText(5, beginningText(1), x), 0, api.ErrDown},
		{logText(5, beginningText(1), x), 1, api.ErrDown},
		{logText(5, beginningText(1), x), 2, api.OK},
		{noughts(3), 1, api.ErrDown},
		{noughts(3), 2, api.OK},
		{noughts(2), 0, api.ErrArg},
		{headText(1<<63, 0, 0) + noughts(3), 0, api.ErrForm},
	} {
		b := on(t, c.text)
		b.power(c.power)
		if e := b.open(); e != c.e {
			t.Error(i, "answers", e, "wanted", c.e)
		}
		if wrote := b.d.Done() > 0; wrote != (c.e == api.OK || c.power == 1) {
			t.Error(i, "writes", b.d.Done())
		}
	}
}

// P18.1: on a log of the greatest generations Open answers as layer 6 does: the last one that may be is opened once more, and then none.
func TestGreatestGeneration(t *testing.T) {
	for back := range uint64(3) {
		b := on(t, headText(1<<63-1-back, 1, 1)+noughts(1)+recText(beginningText(6))+noughts(6))
		for range back + 1 {
			if e := b.open(); e != api.OK {
				t.Fatal(back, e)
			}
		}
		if e := b.open(); e != api.ErrForm {
			t.Fatal(back, e)
		}
	}
}

// P18.1: of a key's items in a log the newest is kept, wherever it stands; of some whose versions are the same the first.
func TestNewestOfALog(t *testing.T) {
	pool := []api.Item{item(5, 1, 7, "a"), item(5, 1, 8, "b"), item(5, 2, 6, "c"), item(5, 1, 7, "d"), item(6, 1, 7, "e"), item(5, lastN, 0, "f")}
	lists(pool, 4, func(l []api.Item) {
		recs := []string{beginningText(4)}
		for _, x := range l {
			recs = append(recs, textOf(x))
		}
		b := on(t, logText(9, recs...))
		if e := b.open(); e != api.OK || b.v.Inc() != 5 {
			t.Fatal(l, e)
		}
		b.get(small(5))
		b.get(small(6))
	})
	b := on(t, logText(9, textOf(pool[2]), textOf(pool[0]), textOf(pool[1])))
	b.open()
	if x, ok := b.v.Get(small(5)); !ok || !same(x, pool[2]) {
		t.Error("an older one behind a newer one is kept:", x, ok)
	}
	b = on(t, logText(9, textOf(pool[0]), textOf(pool[3])))
	b.open()
	if x, ok := b.v.Get(small(5)); !ok || !same(x, pool[0]) {
		t.Error("one of the same version takes the first one's place:", x, ok)
	}
}

// call is one call of a row.
type call struct {
	name string
	do   func(b *bench)
}

func putting(key byte, value string, who byte) call {
	return call{"Put", func(b *bench) { b.put(small(key), value, small(who)) }}
}

func merging(x api.Item) call {
	return call{"Merge", func(b *bench) { b.merge(x) }}
}

func powering(n int) call {
	return call{"Power", func(b *bench) { b.power(n) }}
}

func opening() call {
	return call{"Open", func(b *bench) { b.open() }}
}

// P18.1: all short rows of calls, on a disk that is soon full.
func TestShortRows(t *testing.T) {
	pool := []call{
		putting(5, "a", 7), putting(5, value(64, 1), 6), putting(6, "", 7), putting(5, value(65, 1), 7),
		merging(item(5, 1, 6, "b")), merging(item(5, 1, 7, "c")), merging(item(5, 1, 8, "d")), merging(item(5, 2, 7, "e")),
		merging(item(5, lastN, 7, "f")), merging(item(5, lastN+1, 7, "g")),
		opening(), powering(0), powering(1), powering(-1),
	}
	lists(pool, 4, func(l []call) {
		if len(l) < 4 {
			return // it is the beginning of a longer one
		}
		b := on(t, noughts(7))
		b.open()
		for _, c := range l {
			c.do(b)
		}
		b.power(-1)
		b.open()
	})
}

// drawnItem has a key of few, and a version near those that are kept, or at an edge.
func drawnItem(r *rand.Rand) api.Item {
	x := item(byte(r.Intn(4)), int64(r.Intn(8)), byte(r.Intn(4)), value(pick(r, []int{0, 1, 2, 24, 25, 63, 64, 64, 65, 66, r.Intn(64)}), byte(r.Intn(256))))
	if r.Intn(8) == 0 {
		x.Key = pick(r, edgeIDs())
	}
	if r.Intn(8) == 0 {
		x.Ver.Who = pick(r, edgeIDs())
	}
	if r.Intn(40) == 0 {
		x.Ver.N = pick(r, edgeNs())
	}
	return x
}

// drawnCall is any call.
func drawnCall(r *rand.Rand) call {
	x := drawnItem(r)
	switch r.Intn(12) {
	case 0:
		return opening()
	case 1:
		return powering(r.Intn(12))
	case 2, 3:
		return powering(-1)
	case 4, 5, 6, 7:
		return merging(x)
	}
	return call{"Put", func(b *bench) { b.put(x.Key, string(x.Value), x.Ver.Who) }}
}

// P18.1: long rows of calls, on disks of all sizes.
func TestLongRows(t *testing.T) {
	r := rand.New(rand.NewSource(18))
	for range 400 {
		b := on(t, noughts(pick(r, []int{3, 4, 5, 8, 20, 60, 120})))
		b.open()
		for range 100 {
			drawnCall(r).do(b)
		}
	}
}

// P18.1: on the greatest disk as many items as it has room for, of many keys; opened again they are all there.
func TestManyItems(t *testing.T) {
	d := disk.New(api.MaxSectors)
	v, _ := vault.Open(d)
	want := map[api.ID]api.Item{}
	for n := 0; ; n++ {
		key := api.ID{0: byte(n * 37), 9: byte(n >> 3), 15: byte(n % 3)}
		x, e := v.Put(key, []byte(value(n%20, byte(n))), small(byte(n)))
		if e == api.ErrFull {
			break
		}
		if e != api.OK || x.Ver.N != want[key].Ver.N+1 {
			t.Fatal(n, x, e)
		}
		want[key] = x
	}
	if len(want) < 1000 || v.Down() {
		t.Fatal("only", len(want), "keys", v.Down())
	}
	holdsAll(t, v, want)
	if again, e := vault.Open(d); again != nil || e != api.ErrFull {
		t.Fatal("a beginning finds room on a full disk:", e)
	}
	// The head that counts is made to tell of one record less.
	b := d.Bytes()
	short, _ := disk.Of(append([]byte(headText(uint64(api.MaxSectors), uint64(api.MaxSectors-3), uint64(api.MaxSectors-3))), b[64:]...))
	v, e := vault.Open(short)
	if e != api.OK || v.Inc() != 2 || len(v.All()) < len(want)-1 {
		t.Fatal(v.Inc(), len(v.All()), e)
	}
}

func holdsAll(t *testing.T, v *vault.Vault, want map[api.ID]api.Item) {
	t.Helper()
	all := v.All()
	if len(all) != len(want) {
		t.Fatal("All are", len(all), "wanted", len(want))
	}
	for i, x := range all {
		if !same(x, want[x.Key]) {
			t.Fatal(x, "wanted", want[x.Key])
		}
		if i > 0 && bytes.Compare(all[i-1].Key[:], x.Key[:]) >= 0 {
			t.Fatal("not by their keys:", all[i-1].Key, x.Key)
		}
	}
}

// P18.1: disks of any bytes, most of them nearly right.
func TestDisks(t *testing.T) {
	r := rand.New(rand.NewSource(181))
	kinds := map[api.Errno]int{}
	for range 20000 {
		b := on(t, drawnDisk(r))
		b.power(pick(r, []int{-1, -1, -1, -1, 0, 1, 2, 4}))
		e := b.open()
		kinds[e]++
		for range 3 {
			drawnCall(r).do(b)
		}
	}
	for _, e := range []api.Errno{api.OK, api.ErrForm, api.ErrFull, api.ErrDown} {
		if kinds[e] < 300 {
			t.Error("too few of a kind:", kinds)
		}
	}
}

// drawnDisk is the bytes of one: a log's, now and then changed here and there.
func drawnDisk(r *rand.Rand) string {
	size := 3 + r.Intn(12)
	used, count, body, last := 0, 0, "", uint64(0)
	for range r.Intn(8) {
		rec := textOf(drawnItem(r))
		switch r.Intn(20) {
		case 0, 1, 2, 3:
			last += pick(r, []uint64{1, 1, 1, 2, 300, 1 << 19})
			rec = beginningText(last)
		case 4:
			rec = beginningText(pick(r, []uint64{1<<20 - 1, 1 << 20, 1<<20 + 1, 0, last}))
		case 5:
			rec = pick(r, wrongRecords())
		}
		if s := recText(rec); used+len(s)/64 <= size-2 {
			used, count, body = used+len(s)/64, count+1, body+s
		}
	}
	gen := pick(r, []uint64{1, 2, 3, 4, 5, 255, 256, 1 << 40})
	heads := []string{headText(gen-1, uint64(r.Intn(size)), uint64(r.Intn(4))), headText(gen, uint64(used), uint64(count))}
	if r.Intn(2) == 0 {
		slices.Reverse(heads)
	}
	text := []byte(heads[0] + heads[1] + body)
	if r.Intn(4) == 0 {
		text[r.Intn(len(text))] = pick(r, []byte{0, 1, 2, 4, 16, 64, 65, 128, 255})
	}
	return string(text) + noughts(size)[len(text):]
}

// P18.1: values of every length, by Put and by Merge, and what is left of them when the vault is opened again.
func TestLengths(t *testing.T) {
	for n := range 70 {
		for _, byPut := range []bool{true, false} {
			b := on(t, noughts(12))
			b.open()
			b.put(small(5), "first", small(1))
			e, want := api.OK, api.OK
			if byPut {
				e = b.put(small(5), value(n, byte(n)), small(7))
			} else {
				_, e = b.merge(item(5, 2, 7, value(n, byte(n))))
			}
			if n > 64 {
				want = api.ErrLong
			}
			if e != want {
				t.Fatal(n, e)
			}
			b.open()
			if x, _ := b.v.Get(small(5)); (string(x.Value) == value(n, byte(n))) != (n <= 64) {
				t.Fatal(n, x)
			}
		}
	}
	for _, n := range []int{65, 66, 1024, 1025, 1 << 20} {
		b := on(t, noughts(12))
		b.open()
		if e := b.put(small(5), value(n, 1), small(7)); e != api.ErrLong {
			t.Error(n, e)
		}
		if _, e := b.merge(item(5, 1, 7, value(n, 1))); e != api.ErrLong {
			t.Error(n, e)
		}
	}
}

// P18.1: Merge of every version at an edge into vaults that keep nothing, or one at another edge.
func TestMergeEdges(t *testing.T) {
	whos := []api.ID{{}, small(7), small(8), {0: 1}, {0: 128}, {0: 255, 15: 255}}
	var vers []api.Ver
	for _, n := range edgeNs() {
		for _, who := range whos {
			vers = append(vers, api.Ver{N: n, Who: who})
		}
	}
	for _, first := range vers {
		for _, second := range vers {
			b := on(t, noughts(6))
			b.open()
			b.merge(api.Item{Key: small(5), Ver: first, Value: []byte("a")})
			b.merge(api.Item{Key: small(5), Ver: second, Value: []byte("b")})
			b.merge(api.Item{Key: small(6), Ver: second})
		}
	}
}

// P18.1: the first version's number is 1, the last 2^62 - 1; behind that Put has none.
func TestLastVersion(t *testing.T) {
	b := on(t, noughts(30))
	b.open()
	for _, n := range []int64{0, -1, lastN + 1, math.MaxInt64, math.MinInt64} {
		if ok, e := b.merge(item(5, n, 7, "a")); ok || e != api.ErrArg {
			t.Error(n, ok, e)
		}
	}
	if ok, e := b.merge(item(5, lastN-1, 7, "a")); !ok || e != api.OK {
		t.Fatal(ok, e)
	}
	if x, e := b.v.Put(small(5), []byte("b"), small(1)); e != api.OK || !same(x, item(5, lastN, 1, "b")) {
		t.Fatal(x, e)
	}
	b.s.put(small(5), "b", small(1))
	for _, power := range []int{-1, 0} {
		b.power(power)
		if e := b.put(small(5), "c", small(9)); e != api.ErrFull || b.v.Down() {
			t.Error(power, e)
		}
		if e := b.put(small(5), value(65, 0), small(9)); e != api.ErrLong {
			t.Error(power, e)
		}
	}
	b.power(-1)
	if ok, e := b.merge(item(5, lastN, 2, "d")); !ok || e != api.OK {
		t.Error("by who gave it there is still a newer one:", ok, e)
	}
	if e := b.put(small(6), "e", small(9)); e != api.OK {
		t.Error("another key has numbers of its own:", e)
	}
	b.open()
	if x, ok := b.v.Get(small(5)); !ok || !same(x, item(5, lastN, 2, "d")) {
		t.Error(x, ok)
	}
}

// P18.1: Put's version is one above the one that is kept, whoever gave that.
func TestPutGoesAbove(t *testing.T) {
	for _, n := range []int64{1, 2, 255, 256, 1 << 32, lastN - 1} {
		for _, who := range edgeIDs() {
			b := on(t, noughts(9))
			b.open()
			b.merge(api.Item{Key: small(5), Ver: api.Ver{N: n, Who: api.ID{0: 255, 15: 255}}, Value: []byte("a")})
			x, e := b.v.Put(small(5), nil, who)
			if e != api.OK || x.Key != small(5) || x.Ver != (api.Ver{N: n + 1, Who: who}) || len(x.Value) != 0 {
				t.Fatal(n, who, x, e)
			}
		}
	}
}

// P18.1, R6: a log that is full answers ErrFull, and nothing changes; what needs no room is answered as ever.
func TestFull(t *testing.T) {
	b := on(t, noughts(5))
	b.open()
	b.put(small(5), "a", small(7))
	if e := b.put(small(5), value(64, 0), small(7)); e != api.ErrFull || b.v.Down() {
		t.Error("two sectors aren't left:", e)
	}
	if e := b.put(small(5), value(25, 0), small(7)); e != api.ErrFull || b.v.Down() {
		t.Error("one byte more than one sector takes:", e)
	}
	if e := b.put(small(5), value(24, 0), small(7)); e != api.OK {
		t.Error("one is left:", e)
	}
	for _, power := range []int{-1, 0} {
		b.power(power)
		if e := b.put(small(5), "", small(7)); e != api.ErrFull || b.v.Down() {
			t.Error(e)
		}
		if e := b.put(small(6), value(65, 0), small(7)); e != api.ErrLong {
			t.Error(e)
		}
		if ok, e := b.merge(item(5, 3, 7, "")); ok || e != api.ErrFull {
			t.Error(ok, e)
		}
		if ok, e := b.merge(item(5, 2, 7, "b")); ok || e != api.OK {
			t.Error("it isn't newer, so that it needs no room:", ok, e)
		}
		if ok, e := b.merge(item(6, 1, 7, "")); ok || e != api.ErrFull {
			t.Error(ok, e)
		}
		if ok, e := b.merge(item(6, 0, 7, "")); ok || e != api.ErrArg {
			t.Error(ok, e)
		}
	}
	b.power(-1)
	if e := b.open(); e != api.ErrFull {
		t.Error(e)
	}
}

// P18.1: a log that is down stays so till it is opened anew; what is kept is still told.
func TestDown(t *testing.T) {
	for power := range 3 {
		b := on(t, noughts(12))
		b.open()
		b.put(small(5), "a", small(7))
		b.power(power)
		if e := b.put(small(5), value(64, 0), small(7)); e != api.ErrDown || !b.v.Down() {
			t.Fatal(power, e)
		}
		for _, again := range []int{0, -1} {
			b.power(again)
			if e := b.put(small(6), "", small(7)); e != api.ErrDown || !b.v.Down() {
				t.Fatal(e)
			}
			if ok, e := b.merge(item(5, 2, 7, "")); ok || e != api.ErrDown {
				t.Fatal(ok, e)
			}
			if ok, e := b.merge(item(5, 1, 7, "x")); ok || e != api.OK {
				t.Fatal("it isn't newer, so that it isn't written:", ok, e)
			}
			if ok, e := b.merge(item(5, 0, 7, value(65, 0))); ok || e != api.ErrArg {
				t.Fatal(ok, e)
			}
			if ok, e := b.merge(item(5, 1, 7, value(65, 0))); ok || e != api.ErrLong {
				t.Fatal(ok, e)
			}
			if e := b.put(small(5), value(65, 0), small(7)); e != api.ErrLong {
				t.Fatal(e)
			}
			if x, ok := b.v.Get(small(5)); !ok || !same(x, item(5, 1, 7, "a")) || b.v.Inc() != 1 {
				t.Fatal(x, ok, b.v.Inc())
			}
		}
		if e := b.open(); e != api.OK || b.v.Down() || b.v.Inc() != 2 {
			t.Fatal(e)
		}
		if e := b.put(small(5), "b", small(7)); e != api.OK {
			t.Fatal(e)
		}
	}
}

// P18.1, R1: a nil vault.
func TestNone(t *testing.T) {
	var v *vault.Vault
	if v.Inc() != 0 || v.Down() || len(v.All()) != 0 {
		t.Error(v.Inc(), v.Down(), v.All())
	}
	for _, id := range edgeIDs() {
		if x, ok := v.Get(id); ok || !same(x, api.Item{}) || x.Value != nil {
			t.Error(x, ok)
		}
		for _, n := range []int{0, 1, 64, 65} {
			if x, e := v.Put(id, make([]byte, n), id); e != api.ErrArg || !same(x, api.Item{}) {
				t.Error(x, e)
			}
			for _, ver := range edgeNs() {
				if ok, e := v.Merge(api.Item{Key: id, Ver: api.Ver{N: ver, Who: id}, Value: make([]byte, n)}); ok || e != api.ErrArg {
					t.Error(ok, e)
				}
			}
		}
	}
}

// R4: no value and an empty one are the same.
func TestNoValue(t *testing.T) {
	var texts []string
	for _, none := range [][]byte{nil, {}} {
		d := disk.New(12)
		v, _ := vault.Open(d)
		if x, e := v.Put(small(5), none, small(7)); e != api.OK || len(x.Value) != 0 {
			t.Error(x, e)
		}
		if ok, e := v.Merge(api.Item{Key: small(6), Ver: api.Ver{N: 1}, Value: none}); !ok || e != api.OK {
			t.Error(ok, e)
		}
		texts = append(texts, string(d.Bytes()))
		v, _ = vault.Open(d)
		if l := v.All(); len(l) != 2 || len(l[0].Value)+len(l[1].Value) != 0 {
			t.Error(l)
		}
	}
	if texts[0] != texts[1] {
		t.Error("other bytes on the disk")
	}
}

// R3: what is handed in stays as it is, spare room too, and what becomes of it later the vault doesn't see.
func TestArgumentsStay(t *testing.T) {
	for _, n := range []int{0, 1, 30, 64, 65} {
		for _, power := range []int{-1, 0, 1} {
			room := []byte(value(200, 3))
			given := room[50 : 50+n : 180]
			d := disk.New(20)
			v, _ := vault.Open(d)
			d.Power(power)
			x, _ := v.Put(small(5), given, small(7))
			spoil(x.Value)
			v.Merge(api.Item{Key: small(6), Ver: api.Ver{N: 1}, Value: given})
			v.Merge(api.Item{Key: small(7), Value: given})
			vault.Form(api.Item{Key: small(7), Value: given})
			if string(room) != value(200, 3) {
				t.Fatal(n, power, "the argument has changed")
			}
			clear(room)
			if n > 64 || power >= 0 {
				continue
			}
			for key := byte(5); key < 7; key++ {
				if x, _ := v.Get(small(key)); string(x.Value) != value(200, 3)[50:50+n] {
					t.Fatal(n, "what was handed in is kept:", x)
				}
			}
		}
	}
}

// spoil changes all bytes of a value, spare room too.
func spoil(b []byte) {
	b = b[:cap(b)]
	for i := range b {
		b[i] ^= 0x5a
	}
}

// R3: what is answered is new memory, spare room too: whoever changes it changes neither the vault, nor the disk, nor another answer.
func TestAnswersAreNewMemory(t *testing.T) {
	b := on(t, noughts(40))
	b.open()
	b.put(small(4), value(20, 1), small(1))
	b.merge(item(5, 3, 7, value(64, 2)))
	b.put(small(6), "", small(1))
	b.put(small(7), value(3, 9), small(1))
	for range 2 {
		x, e := b.v.Put(small(8), []byte("fresh"), small(1))
		b.s.put(small(8), "fresh", small(1))
		if e != api.OK {
			t.Fatal(e)
		}
		spoil(x.Value)
		b.stands()
		for _, key := range []byte{4, 5, 6, 7, 8} {
			x, _ := b.v.Get(small(key))
			spoil(x.Value)
			b.stands()
		}
		all := b.v.All()
		for i := range all {
			spoil(all[i].Value)
			for j := i + 1; j < len(all); j++ {
				if want, _ := b.s.get(all[j].Key); !same(all[j], want) {
					t.Fatal("two values share memory", i, j)
				}
			}
			b.stands()
		}
		other := b.v.All()
		clear(all[:cap(all)])
		if !slices.EqualFunc(other, b.s.all(), same) {
			t.Fatal("two lists share memory")
		}
		b.stands()
		form := vault.Form(item(5, 3, 7, "a"))
		spoil(form)
		if string(vault.Form(item(5, 3, 7, "a"))) != textOf(item(5, 3, 7, "a")) {
			t.Fatal("two forms share memory")
		}
		b.open() // the second time what was read from the disk is asked for
	}
}

// R2: vaults on two disks are nothing to each other; the same calls answer the same, whatever another vault was handed between them.
func TestTwoVaults(t *testing.T) {
	r := rand.New(rand.NewSource(182))
	for range 100 {
		a, b := on(t, noughts(40)), on(t, noughts(25))
		a.open()
		b.open()
		for range 40 {
			drawnCall(r).do(a)
			drawnCall(r).do(b)
			a.stands()
		}
	}
}
