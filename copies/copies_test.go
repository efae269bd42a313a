package copies_test

import (
	"bytes"
	"math/rand"
	"slices"
	"testing"

	"annulet/api"
	"annulet/copies"
)

// P19.1: the chapter's example, in both orders of the friends.
func TestExample(t *testing.T) {
	for _, friends := range [][]api.ID{smalls(9, 20), smalls(20, 9)} {
		if !copies.Root(small(5), friends, small(6)) {
			t.Error("5 is no root of 6")
		}
		if got := copies.Owed(small(5), friends, small(6)); !slices.Equal(got, smalls(9, 20)) {
			t.Errorf("6 is owed to %x", got)
		}
		if copies.Root(small(5), friends, small(10)) {
			t.Error("5 is a root of 10")
		}
		if got := copies.Owed(small(5), friends, small(10)); !slices.Equal(got, smalls(9)) {
			t.Errorf("10 is owed to %x", got)
		}
	}
}

// spot is one of 16 that stand all around the ring, as far from each other.
func spot(n int) api.ID { return api.ID{byte(n) << 4} }

func spots(ns []int) []api.ID {
	var l []api.ID
	for _, n := range ns {
		l = append(l, spot(n))
	}
	return l
}

// firstMet is the one of some spots that is met first on the way out from a key: the next one clockwise, the next one back, and so on; -1, if there is none.
func firstMet(key int, ns []int) int {
	for far := range 9 {
		for _, at := range []int{(key + far) % 16, (key + 16 - far) % 16} {
			if slices.Contains(ns, at) {
				return at
			}
		}
	}
	return -1
}

// P19.1: a small circle whole: whoever is met first on the way out from the key is the root, or is owed alone.
func TestSmallCircle(t *testing.T) {
	pool := []int{0, 1, 2, 5, 8, 9, 13, 15}
	lists(pool, 3, func(friends []int) {
		ids := spots(friends)
		for self := range 16 {
			sorted := toldSorted(spot(self), ids)
			for key := range 16 {
				first := firstMet(key, append(slices.Clone(friends), self))
				want := sorted
				if first != self {
					want = []api.ID{spot(first)}
				}
				if got := copies.Root(spot(self), ids, spot(key)); got != (first == self) {
					t.Fatalf("Root(%d, %d, %d) = %v", self, friends, key, got)
				}
				if got := copies.Owed(spot(self), ids, spot(key)); !slices.Equal(got, want) {
					t.Fatalf("Owed(%d, %d, %d) = %x, want %x", self, friends, key, got, want)
				}
			}
		}
	})
}

// P19.1: all sets of friends of a circle of eight, from each spot, for each key on a spot and between two.
func TestSmallCircleEverySet(t *testing.T) {
	for set := range 256 {
		var friends []int
		for n := range 8 {
			if set>>n&1 == 1 {
				friends = append(friends, 2*n)
			}
		}
		for self := 0; self < 16; self += 2 {
			for key := range 16 {
				root := firstMet(key, append(slices.Clone(friends), self)) == self
				if got := copies.Root(spot(self), spots(friends), spot(key)); got != root {
					t.Fatalf("Root(%d, %d, %d) = %v", self, friends, key, got)
				}
				owed(t, spot(self), spots(friends), spot(key))
			}
		}
	}
}

// P19.1: all lists of at most three friends at edges, from each edge, for each key at an edge.
func TestEdges(t *testing.T) {
	pool := edgeIDs()
	lists(pool, 3, func(friends []api.ID) {
		for _, self := range pool {
			for _, key := range pool {
				owed(t, self, friends, key)
			}
		}
	})
}

// P19.1: large circles, drawn the same way in each run; keys beside each one, opposite to it, and in the middle of two.
func TestLargeCircles(t *testing.T) {
	r := rand.New(rand.NewSource(19))
	for n := range 24 {
		ids := drawnIDs(r, n)
		for _, self := range append(drawnIDs(r, 1), ids[:min(n, 2)]...) {
			for _, key := range keysAround(append(slices.Clone(ids), self)) {
				owed(t, self, ids, key)
			}
		}
	}
	for _, n := range []int{50, 120, 300} {
		ids := drawnIDs(r, n)
		for range 40 {
			self, key := pick(r, ids), pick(r, keysAround(ids[:4]))
			owed(t, self, ids, key)
			owed(t, key, ids, self)
			owed(t, self, ids, self)
		}
	}
}

// P19.1: the edges that the chapter names, written out.
func TestWrittenOut(t *testing.T) {
	last := shift(api.ID{}, -1)
	for i, c := range []struct {
		self    api.ID
		friends []api.ID
		key     api.ID
		root    bool
		owed    []api.ID
	}{
		// Nobody, and oneself.
		{small(5), nil, small(5), true, nil},
		{small(5), nil, opposite(small(5)), true, nil},
		{small(5), smalls(5), small(6), true, nil},
		{small(5), smalls(5, 5, 5), opposite(small(5)), true, nil},
		{small(5), smalls(9, 5, 9, 5), small(6), true, smalls(9)},
		{small(5), smalls(9, 5, 9, 5), small(9), false, smalls(9)},
		// As near as self: the one that stands clockwise behind the key counts as nearer.
		{small(5), smalls(9), small(7), false, smalls(9)},
		{small(9), smalls(5), small(7), true, smalls(5)},
		{small(9), smalls(5, 5, 9), small(7), true, smalls(5)},
		{small(5), smalls(20, 9, 1), small(7), false, smalls(9)},
		{last, smalls(1), api.ID{}, false, smalls(1)},
		{small(1), []api.ID{last}, api.ID{}, true, []api.ID{last}},
		// Two friends that are as near as each other.
		{small(20), smalls(5, 9), small(7), false, smalls(9)},
		{small(20), smalls(9, 5), small(7), false, smalls(9)},
		{opposite(api.ID{}), []api.ID{last, small(1)}, api.ID{}, false, smalls(1)},
		{opposite(api.ID{}), []api.ID{small(1), last}, api.ID{}, false, smalls(1)},
		// The key is self's own, a friend's, one beside.
		{small(5), smalls(20, 4, 6), small(5), true, smalls(4, 6, 20)},
		{small(5), smalls(20, 4, 6), small(6), false, smalls(6)},
		{small(5), smalls(20, 4, 6), small(4), false, smalls(4)},
		{small(5), smalls(20, 9), small(4), true, smalls(9, 20)},
		{small(5), smalls(20, 9), small(8), false, smalls(9)},
		{small(5), smalls(20, 9), small(21), false, smalls(20)},
		// 0, the greatest, and the ring closes between them.
		{small(5), []api.ID{last, small(9)}, api.ID{}, false, []api.ID{last}},
		{small(5), []api.ID{last, small(9)}, last, false, []api.ID{last}},
		{small(5), []api.ID{last, small(9)}, small(1), false, []api.ID{last}},
		{small(5), []api.ID{last, small(9)}, small(2), true, []api.ID{small(9), last}},
		{small(5), []api.ID{shift(last, -1), small(9)}, small(2), true, []api.ID{small(9), shift(last, -1)}},
		{last, []api.ID{small(9), {}}, last, true, []api.ID{{}, small(9)}},
		{last, []api.ID{small(9), {}}, api.ID{}, false, []api.ID{{}}},
		{api.ID{}, []api.ID{small(9), last}, shift(last, -7), false, []api.ID{last}},
		// Opposite to the key it is as far both ways.
		{api.ID{}, []api.ID{opposite(small(1))}, opposite(api.ID{}), false, []api.ID{opposite(small(1))}},
		{opposite(api.ID{}), []api.ID{opposite(small(1)), opposite(last)}, api.ID{}, false, []api.ID{opposite(last)}},
	} {
		if got := copies.Root(c.self, c.friends, c.key); got != c.root {
			t.Errorf("%d: Root(%x, %x, %x) = %v", i, c.self, c.friends, c.key, got)
		}
		if got := copies.Owed(c.self, c.friends, c.key); !slices.Equal(got, c.owed) {
			t.Errorf("%d: Owed(%x, %x, %x) = %x, want %x", i, c.self, c.friends, c.key, got, c.owed)
		}
	}
}

// deed is a call that changes a book.
type deed func(b *bench)

func marks(id, key byte, v api.Ver) deed {
	return func(b *bench) { b.mark(small(id), small(key), v) }
}

func retains(ids ...byte) deed { return func(b *bench) { b.retain(smalls(ids...)...) } }

// askAll asks for items of which self is the root and of which it isn't, with friends and without.
func askAll(b *bench) {
	b.Helper()
	items := []api.Item{item(6, 1, 0, "a"), item(10, 1, 0, "b"), item(6, 2, 0, "c"), item(6, 1, 1, "d"), item(6, 0, 0, ""), item(10, 0, 0, "e"), item(10, 2, 0, "f")}
	for _, friends := range [][]api.ID{nil, smalls(9), smalls(20, 9), smalls(9, 5, 20, 9, 3)} {
		b.due(small(5), friends, items)
	}
	b.due(small(9), smalls(5, 20), items)
}

// P19.1: all short rows of Mark and Retain, each asked at its end.
func TestShortRows(t *testing.T) {
	pool := []deed{
		marks(9, 6, ver(1, 0)), marks(9, 6, ver(2, 0)), marks(9, 6, ver(0, 0)), marks(20, 6, ver(1, 0)), marks(9, 10, ver(1, 0)),
		marks(20, 6, ver(1, 1)), marks(5, 6, ver(1, 0)), marks(9, 10, ver(0, 0)), marks(6, 9, ver(1, 0)),
		retains(), retains(9), retains(20), retains(20, 9, 20), retains(5, 6),
	}
	lists(pool, 4, func(deeds []deed) {
		b := newBench(t)
		for _, do := range deeds {
			do(b)
		}
		askAll(b)
	})
}

// drawnItem has few keys and versions, so that what is marked is often asked for.
func drawnItem(r *rand.Rand, keys []api.ID) api.Item {
	x := api.Item{Key: pick(r, keys), Ver: ver(int64(r.Intn(3)), byte(r.Intn(2))), Value: []byte("abc")[:r.Intn(4)]}
	if r.Intn(10) == 0 {
		x.Ver = pick(r, edgeVers())
	}
	return x
}

func drawnItems(r *rand.Rand, n int, keys []api.ID) []api.Item {
	var l []api.Item
	for range n {
		l = append(l, drawnItem(r, keys))
	}
	return l
}

// some are those of a list that are drawn.
func some[T any](r *rand.Rand, l []T, of int) []T {
	return slices.DeleteFunc(slices.Clone(l), func(T) bool { return r.Intn(of) == 0 })
}

// P19.1: long rows, drawn the same way in each run, asked behind each call.
func TestLongRows(t *testing.T) {
	r := rand.New(rand.NewSource(191))
	marked, due := 0, 0
	for range 300 {
		ids := drawnIDs(r, 1+r.Intn(7))
		keys := append(drawnIDs(r, 3), ids[0], pick(r, ids), shift(ids[0], 1))
		b := newBench(t)
		for range 60 {
			friends, items := some(r, ids, 3), drawnItems(r, r.Intn(6), keys)
			switch r.Intn(12) {
			case 0:
				b.retain(some(r, ids, 4)...)
			case 1:
				b.retain(some(r, append(ids, keys...), 2)...)
			case 2, 3, 4, 5, 6, 7:
				x := drawnItem(r, keys)
				b.mark(pick(r, ids), x.Key, x.Ver)
			default:
				for _, x := range b.due(ids[0], friends, items) {
					// As a node does: what was handed on is told to be kept, mostly.
					if r.Intn(4) > 0 {
						b.mark(x.To, x.Item.Key, x.Item.Ver)
					}
				}
			}
			self := pick(r, ids)
			got := len(b.due(self, friends, items))
			due += got
			for _, x := range items {
				marked += len(toldOwed(self, friends, x.Key))
			}
			marked -= got
		}
	}
	if marked < 1000 || due < 1000 {
		t.Errorf("too few were marked, %d, or due, %d", marked, due)
	}
}

// P19.1: in the order of the items, and of each in that of Owed; items of one key twice, and the same item twice, are each due.
func TestOrder(t *testing.T) {
	b := copies.New()
	items := []api.Item{item(10, 3, 1, "z"), item(6, 1, 1, "a"), item(10, 1, 1, "b"), item(6, 1, 1, "a"), item(6, 0, 1, "c"), item(5, 1, 0, "")}
	friends := smalls(20, 9, 20, 5, 14)
	row := func(skip ...byte) []copies.Due {
		var l []copies.Due
		for _, x := range items {
			to := smalls(9, 14, 20)
			if x.Key == small(10) {
				to = smalls(9)
			}
			for _, id := range to {
				if !bytes.Contains(skip, id[15:]) || x.Key != small(6) || x.Ver != ver(1, 1) {
					l = append(l, copies.Due{To: id, Item: x})
				}
			}
		}
		return l
	}
	if got := b.Due(small(5), friends, items); !slices.EqualFunc(got, row(), sameDue) {
		t.Errorf("Due = %v, want %v", got, row())
	}
	b.Mark(small(14), small(6), ver(1, 1))
	if got := b.Due(small(5), friends, items); !slices.EqualFunc(got, row(14), sameDue) {
		t.Errorf("14 keeps 6: Due = %v, want %v", got, row(14))
	}
	b.Mark(small(9), small(6), ver(1, 1))
	if got := b.Due(small(5), friends, items); !slices.EqualFunc(got, row(14, 9), sameDue) {
		t.Errorf("14 and 9 keep 6: Due = %v, want %v", got, row(14, 9))
	}
}

// dueTo are those to whom an item of the key 6 in this version is due, from 5, with the friends 9 and 20.
func dueTo(b *copies.Book, v api.Ver) []api.ID {
	var l []api.ID
	for _, x := range b.Due(small(5), smalls(9, 20), []api.Item{{Key: small(6), Ver: v}}) {
		l = append(l, x.To)
	}
	return l
}

// P19.1: an item of the zero version isn't due where nothing is noted, nor where the zero version was marked; where another one is noted it is.
func TestZeroVersion(t *testing.T) {
	zero := api.Ver{}
	b := copies.New()
	if got := dueTo(b, zero); len(got) != 0 {
		t.Errorf("nothing is noted: due to %x", got)
	}
	b.Mark(small(9), small(6), zero)
	if got := dueTo(b, zero); len(got) != 0 {
		t.Errorf("the zero version is noted: due to %x", got)
	}
	if got := dueTo(b, ver(1, 0)); !slices.Equal(got, smalls(9, 20)) {
		t.Errorf("the zero version is noted: the first one is due to %x", got)
	}
	for _, v := range edgeVers() {
		b.Mark(small(9), small(6), v)
		want := smalls(9)
		if v == zero {
			want = nil
		}
		if got := dueTo(b, zero); !slices.Equal(got, want) {
			t.Errorf("%v is noted: the zero version is due to %x", v, got)
		}
		b.Mark(small(9), small(6), zero)
		if got := dueTo(b, zero); len(got) != 0 {
			t.Errorf("%v was noted, and then the zero version, which is due to %x", v, got)
		}
		want = smalls(9, 20)
		if v == zero {
			want = nil
		}
		if got := dueTo(b, v); !slices.Equal(got, want) {
			t.Errorf("%v was noted, and then the zero version: it is due to %x", v, got)
		}
		b.Mark(small(9), small(6), v)
		b.Retain(nil)
		if got := dueTo(b, zero); len(got) != 0 {
			t.Errorf("%v was forgotten: the zero version is due to %x", v, got)
		}
	}
}

// P19.1: what is noted last counts, whether it is older than what was, newer or the same.
func TestMarkedOver(t *testing.T) {
	for _, was := range edgeVers() {
		for _, now := range edgeVers() {
			b := newBench(t)
			b.mark(small(9), small(6), was)
			b.mark(small(9), small(6), now)
			var items []api.Item
			for _, v := range []api.Ver{was, now, {}, {N: now.N, Who: was.Who}, {N: was.N, Who: now.Who}} {
				items = append(items, api.Item{Key: small(6), Ver: v})
			}
			b.due(small(5), smalls(9, 20), items)
			b.mark(small(9), small(6), was)
			b.due(small(5), smalls(9, 20), items)
			if got := dueTo(b.b, was); slices.Contains(got, small(9)) {
				t.Fatalf("%v, %v and again %v were marked: it is due to %x", was, now, was, got)
			}
		}
	}
}

// P19.1: what Retain leaves, of none, of some and of all; what it forgot doesn't come back.
func TestRetain(t *testing.T) {
	ids := edgeIDs()
	self, key := ids[0], small(3)
	for set := range 1 << 6 {
		b := newBench(t)
		for i, id := range ids {
			b.mark(id, key, ver(1, byte(i%2)))
			b.mark(id, small(2), ver(2, 0))
		}
		var left []api.ID
		for i := range 6 {
			if set>>i&1 == 1 {
				left = append(left, ids[2*i+1], ids[2*i])
			}
		}
		items := []api.Item{{Key: key, Ver: ver(1, 0)}, {Key: key, Ver: ver(1, 1)}, {Key: small(2), Ver: ver(2, 0)}}
		ask := func() {
			for _, other := range ids {
				b.due(other, ids, items)
				b.due(self, []api.ID{other}, items)
			}
		}
		b.retain(append(left, left...)...)
		ask()
		b.retain(ids...)
		ask()
	}
}

// P19.1: Due, Root and Owed change nothing that a later call could tell.
func TestAskingChangesNothing(t *testing.T) {
	r := rand.New(rand.NewSource(192))
	for range 60 {
		ids := drawnIDs(r, 1+r.Intn(6))
		b := newBench(t)
		for range 12 {
			x := drawnItem(r, ids)
			b.mark(pick(r, ids), x.Key, x.Ver)
		}
		items := drawnItems(r, 8, ids)
		first := b.due(ids[0], ids, items)
		for range 5 {
			b.due(pick(r, ids), some(r, ids, 2), drawnItems(r, 4, ids))
			b.due(ids[0], nil, items)
			b.due(ids[0], ids, nil)
			copies.Owed(ids[0], ids, pick(r, ids))
			if again := b.due(ids[0], ids, items); !slices.EqualFunc(again, first, sameDue) {
				t.Fatalf("Due = %v, then %v", first, again)
			}
		}
	}
}

// R2: books know nothing of each other.
func TestBooksApart(t *testing.T) {
	r := rand.New(rand.NewSource(193))
	ids := drawnIDs(r, 6)
	var books []*bench
	for range 5 {
		books = append(books, newBench(t))
	}
	for range 400 {
		b := pick(r, books)
		switch x := drawnItem(r, ids); r.Intn(6) {
		case 0:
			b.retain(some(r, ids, 3)...)
		default:
			b.mark(pick(r, ids), x.Key, x.Ver)
		}
		items := drawnItems(r, 4, ids)
		for _, b := range books {
			b.due(ids[0], ids, items)
		}
	}
}

// R1: a nil book: nothing is done, none.
func TestNilBook(t *testing.T) {
	var b *copies.Book
	for _, friends := range [][]api.ID{nil, {}, smalls(9, 20), smalls(5)} {
		for _, items := range [][]api.Item{nil, {}, {item(6, 1, 0, "a"), item(10, 0, 0, "")}} {
			for _, id := range edgeIDs() {
				for _, v := range edgeVers() {
					b.Mark(id, small(6), v)
					b.Mark(small(9), id, v)
				}
				b.Retain(friends)
				if got := b.Due(id, friends, items); len(got) != 0 {
					t.Errorf("a nil book: Due(%x, %x, %v) = %v", id, friends, items, got)
				}
			}
		}
	}
	// What was told to none is noted in no book that comes later.
	b = copies.New()
	if got := dueTo(b, ver(1, 0)); !slices.Equal(got, smalls(9, 20)) {
		t.Errorf("a new book: due to %x", got)
	}
}

// R4: nil and empty lists mean the same, and nothing is due of none and to none.
func TestNone(t *testing.T) {
	for _, key := range edgeIDs() {
		for _, self := range edgeIDs() {
			for _, friends := range [][]api.ID{nil, {}, {self}} {
				if !copies.Root(self, friends, key) || len(copies.Owed(self, friends, key)) != 0 {
					t.Errorf("Root(%x, %x, %x) = false, or it is owed", self, friends, key)
				}
				b := copies.New()
				if got := b.Due(self, friends, []api.Item{{Key: key, Ver: ver(1, 0)}}); len(got) != 0 {
					t.Errorf("Due(%x, %x) = %v", self, friends, got)
				}
			}
			for _, items := range [][]api.Item{nil, {}} {
				if got := copies.New().Due(self, smalls(9, 20), items); len(got) != 0 {
					t.Errorf("Due of none = %v", got)
				}
			}
		}
	}
	for _, none := range [][]api.ID{nil, {}} {
		b := copies.New()
		b.Mark(small(9), small(6), ver(1, 0))
		b.Retain(none)
		if got := dueTo(b, ver(1, 0)); !slices.Equal(got, smalls(9, 20)) {
			t.Errorf("all is forgotten: due to %x", got)
		}
	}
	b := copies.New()
	for _, value := range [][]byte{nil, {}} {
		got := b.Due(small(5), smalls(9), []api.Item{{Key: small(6), Ver: ver(1, 0), Value: value}})
		if len(got) != 1 || len(got[0].Item.Value) != 0 {
			t.Errorf("an item without a value: %v", got)
		}
	}
}

// P19.1: an item is handed on as it is, whatever its version and however long its value.
func TestItemStaysWhole(t *testing.T) {
	b := copies.New()
	for _, n := range []int{0, 1, 63, 64, 65, 5000} {
		value := make([]byte, n)
		for i := range value {
			value[i] = byte(i*7 + n)
		}
		for _, v := range edgeVers() {
			for _, key := range edgeIDs() {
				x := api.Item{Key: key, Ver: v, Value: value}
				want := []copies.Due{{To: small(9), Item: x}}
				if v == (api.Ver{}) {
					want = nil
				}
				if got := b.Due(small(5), smalls(9), []api.Item{x}); !slices.EqualFunc(got, want, sameDue) {
					t.Fatalf("Due of %v = %v", x, got)
				}
			}
		}
	}
}

// roomy is a list with the same elements and with spare room, filled with a mark.
func roomy[T any](l []T, spare int, mark T) []T {
	all := slices.Clone(l)
	for range spare {
		all = append(all, mark)
	}
	return all[:len(l)]
}

// roomyItems have spare room behind each value too.
func roomyItems(l []api.Item, spare int) []api.Item {
	l = roomy(l, spare, item(77, 77, 77, "spare"))
	all := l[:cap(l)]
	for i := range all {
		all[i].Value = roomy(all[i].Value, spare, 77)
	}
	return l
}

func whole[T any](l []T) []T { return slices.Clone(l[:cap(l)]) }

// wholeItems tells items with their spare room, and that of their values, in memory of its own.
func wholeItems(l []api.Item) []api.Item {
	l = whole(l)
	for i := range l {
		l[i].Value = whole(l[i].Value)
	}
	return l
}

// R3: what is handed in stays as it is, its spare room too.
func TestArgumentsStay(t *testing.T) {
	r := rand.New(rand.NewSource(194))
	for n := range 100 {
		friends := roomy(drawnIDs(r, 1+n/8), n+3, small(77))
		items := roomyItems(drawnItems(r, n/4, friends), 5)
		wasFriends, wasItems := whole(friends), wholeItems(items)
		stays := func(what string) {
			t.Helper()
			if !slices.Equal(whole(friends), wasFriends) || !slices.EqualFunc(wholeItems(items), wasItems, sameItem) {
				t.Fatalf("%s changed what was handed in: %d friends, %d items", what, len(friends), len(items))
			}
		}
		b := copies.New()
		for range 5 {
			self, x := pick(r, append(edgeIDs(), friends...)), drawnItem(r, friends)
			b.Mark(pick(r, friends), x.Key, x.Ver)
			copies.Root(self, friends, x.Key)
			stays("Root")
			copies.Owed(self, friends, x.Key)
			stays("Owed")
			b.Due(self, friends, items)
			stays("Due")
			b.Retain(friends)
			stays("Retain")
		}
	}
}

// spoilIDs changes all of a list, its spare room too.
func spoilIDs(l []api.ID) {
	l = l[:cap(l)]
	for i := range l {
		l[i] = small(99)
	}
}

func spoilItem(x *api.Item) {
	value := x.Value[:cap(x.Value)]
	for i := range value {
		value[i] = 99
	}
	*x = item(99, 99, 99, "spoilt")
}

func spoilItems(l []api.Item) {
	l = l[:cap(l)]
	for i := range l {
		spoilItem(&l[i])
	}
}

func spoilDue(l []copies.Due) {
	l = l[:cap(l)]
	for i := range l {
		l[i].To = small(99)
		spoilItem(&l[i].Item)
	}
}

// dueApart tells what is due in memory of its own.
func dueApart(l []copies.Due) []copies.Due {
	l = slices.Clone(l)
	for i := range l {
		l[i].Item.Value = slices.Clone(l[i].Item.Value)
	}
	return l
}

// R3: an answer shares no memory with what was handed in, nor with another answer, nor with the book.
func TestAnswersAreNewMemory(t *testing.T) {
	r := rand.New(rand.NewSource(195))
	for n := range 100 {
		friends := roomy(drawnIDs(r, 1+n/8), n+3, small(77))
		items := roomyItems(drawnItems(r, n/4, friends), 5)
		wasFriends, wasItems := whole(friends), wholeItems(items)
		b := newBench(t)
		for range n / 10 {
			x := drawnItem(r, friends)
			b.mark(pick(r, friends), x.Key, x.Ver)
		}
		self := pick(r, append(edgeIDs(), friends...))
		for _, key := range append(edgeIDs(), friends...) {
			first, second := copies.Owed(self, friends, key), copies.Owed(self, friends, key)
			spoilIDs(first)
			if !slices.Equal(second, toldOwed(self, friends, key)) {
				t.Fatalf("two answers of Owed share memory: %x", second)
			}
			spoilIDs(second)
		}
		first, second := b.due(self, friends, items), b.due(self, friends, items)
		kept := dueApart(second)
		spoilDue(first)
		if !slices.EqualFunc(second, kept, sameDue) {
			t.Fatalf("two answers of Due share memory: %v, it was %v", second, kept)
		}
		spoilDue(second)
		if !slices.Equal(whole(friends), wasFriends) || !slices.EqualFunc(wholeItems(items), wasItems, sameItem) {
			t.Fatal("an answer shares memory with what was handed in")
		}
		b.due(self, friends, items)
	}
}

// values are those of an answer, with their spare room, in memory of its own.
func values(l []copies.Due) [][]byte {
	var out [][]byte
	for _, x := range l {
		out = append(out, whole(x.Item.Value))
	}
	return out
}

// R3: no two values of an answer share memory, their spare room neither, though they are of one item.
func TestValuesApart(t *testing.T) {
	items := roomyItems([]api.Item{item(6, 1, 0, "abc"), item(10, 1, 0, "defg"), item(6, 1, 0, "abc"), item(5, 1, 0, "")}, 9)
	items[2].Value = items[0].Value
	for i := range 10 {
		got := copies.New().Due(small(5), smalls(9, 14, 20), items)
		if len(got) != 10 {
			t.Fatal(got)
		}
		want := values(got)
		spoilItem(&got[i].Item)
		now := values(got)
		now[i] = want[i]
		if !slices.EqualFunc(now, want, bytes.Equal) {
			t.Fatalf("the value of %d is shared: %q, they were %q", i, now, want)
		}
	}
}

// R3: what is handed in may be changed behind a call: what was answered and what is noted stay.
func TestWhatIsHandedInIsNotKept(t *testing.T) {
	r := rand.New(rand.NewSource(196))
	for n := range 60 {
		ids := drawnIDs(r, 2+n/10)
		items := drawnItems(r, n/3, ids)
		b := newBench(t)
		for _, x := range items[:len(items)/2] {
			b.mark(pick(r, ids), x.Key, x.Ver)
		}
		handed := slices.Clone(ids[1:])
		b.b.Retain(handed)
		b.l = append(b.l, told{friends: ids[1:]})
		spoilIDs(handed)
		b.due(ids[0], ids, items)

		friends, given := slices.Clone(ids), wholeItems(items)
		got := b.due(ids[0], friends, given)
		list := copies.Owed(ids[0], friends, ids[1])
		want := dueApart(got)
		spoilIDs(friends)
		spoilItems(given)
		if !slices.EqualFunc(got, want, sameDue) || !slices.Equal(list, toldOwed(ids[0], ids, ids[1])) {
			t.Fatalf("an answer changed with what was handed in: %v, it was %v", got, want)
		}
		b.due(ids[0], ids, items)
	}
}

// R1: long lists end too: many friends, many items, much that is noted.
func TestVeryLongLists(t *testing.T) {
	const many = 1 << 16
	ids := make([]api.ID, many)
	items := make([]api.Item, many)
	b := copies.New()
	for i := range ids {
		// Neither rising nor falling.
		at := i * 40503 % many
		ids[i] = api.ID{0: byte(at >> 8), 1: byte(at), 15: 1}
		items[i] = api.Item{Key: ids[i], Ver: ver(1, 0), Value: []byte{byte(i)}}
		b.Mark(ids[i], small(6), ver(1, 0))
	}
	if got := copies.Owed(api.ID{}, ids, api.ID{}); len(got) != many || !slices.Equal(got[:2], []api.ID{{15: 1}, {1: 1, 15: 1}}) {
		t.Errorf("owed to %d of %d", len(got), many)
	}
	b.Retain(ids[:many/2])
	if got := b.Due(small(6), ids, []api.Item{item(6, 1, 0, "a")}); len(got) != many/2 {
		t.Errorf("due to %d of %d, of which the other half keeps it", len(got), many)
	}
	if got := b.Due(api.ID{}, smalls(9), items); len(got) == 0 || len(got) > many {
		t.Errorf("%d of %d are due", len(got), many)
	}
}
