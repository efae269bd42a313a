package copies_test

import (
	"math/rand"
	"slices"
	"testing"

	"annulet/api"
	"annulet/copies"
	"annulet/ring"
	"annulet/vault"
)

// circle is a ring: who is there, and the friends of each.
type circle struct {
	ids     []api.ID
	friends [][]api.ID
}

func circleOf(ids []api.ID, half int) circle {
	c := circle{ids: ids}
	for _, x := range ids {
		c.friends = append(c.friends, ring.Want(x, ids, half))
	}
	return c
}

// nearest is the place of the one to whom a key should come.
func (c circle) nearest(key api.ID) int {
	return slices.Index(c.ids, toldNearest(c.ids, key)[0])
}

// handOn hands a key on from one place till it is at a root, and is where it came to, and in how many hands it was.
func (c circle) handOn(t *testing.T, at int, key api.ID) (int, int) {
	t.Helper()
	for hands := 1; ; hands++ {
		to := copies.Owed(c.ids[at], c.friends[at], key)
		if copies.Root(c.ids[at], c.friends[at], key) {
			if !slices.Equal(to, toldSorted(c.ids[at], c.friends[at])) {
				t.Fatalf("of %x: the root %x owes %x to %x", c.ids, c.ids[at], key, to)
			}
			return at, hands
		}
		if len(to) != 1 || !toldNearer(key, to[0], c.ids[at]) || hands > len(c.ids) {
			t.Fatalf("of %x: %x owes %x to %x, behind %d hands", c.ids, c.ids[at], key, to, hands)
		}
		at = slices.Index(c.ids, to[0])
	}
}

// comes holds P19.2 for one key, from each place.
func (c circle) comes(t *testing.T, key api.ID) {
	t.Helper()
	want := c.nearest(key)
	for at := range c.ids {
		got, hands := c.handOn(t, at, key)
		if got != want || hands > len(c.ids) {
			t.Fatalf("of %x: %x came from %x to %x in %d hands, the nearest is %x", c.ids, key, c.ids[at], c.ids[got], hands, c.ids[want])
		}
		if root := copies.Root(c.ids[at], c.friends[at], key); root != (at == want) {
			t.Fatalf("of %x: Root of %x for %x is %v, the nearest is %x", c.ids, c.ids[at], key, root, c.ids[want])
		}
	}
}

// P19.2: every ring of spots of a small circle, with every half, for each key on a spot.
func TestComesOnSmallCircles(t *testing.T) {
	for set := 1; set < 1<<8; set++ {
		for _, step := range []int{1, 2} {
			var ids []api.ID
			for n := range 8 {
				if set>>n&1 == 1 {
					ids = append(ids, spot(step*n))
				}
			}
			for half := 1; half <= 4; half++ {
				c := circleOf(ids, half)
				for key := range 16 {
					c.comes(t, spot(key))
				}
			}
		}
	}
}

// P19.2: rings of 1 to 14 nodes and of many, with half 1, 2 and above; keys beside each node, opposite to it, in the middle of two, and any.
func TestComesOnDrawnRings(t *testing.T) {
	r := rand.New(rand.NewSource(197))
	for _, n := range []int{1, 2, 3, 4, 5, 6, 7, 8, 9, 10, 11, 12, 13, 14, 40} {
		for _, half := range []int{1, 2, 3, n/2 + 1, n + 5} {
			c := circleOf(unlike(drawnIDs(r, n)), half)
			keys := keysAround(c.ids)
			for range 60 {
				c.comes(t, pick(r, keys))
			}
			for _, x := range c.ids {
				for _, key := range []api.ID{x, shift(x, 1), shift(x, -1), opposite(x)} {
					c.comes(t, key)
				}
			}
			for _, key := range append(drawnIDs(r, 10), edgeIDs()...) {
				c.comes(t, key)
			}
		}
	}
}

// P19.2: on a ring whose nodes stand close together the key goes the whole way, from neighbour to neighbour, in no more hands than there are nodes.
func TestComesTheLongWay(t *testing.T) {
	for n := 2; n < 40; n++ {
		var ids []api.ID
		for i := range n {
			ids = append(ids, small(byte(10+3*i)))
		}
		c := circleOf(ids, 1)
		longest := 0
		for _, key := range append(slices.Clone(ids), small(0), small(255), opposite(small(11)), small(byte(10+3*n/2))) {
			c.comes(t, key)
			for at := range ids {
				_, hands := c.handOn(t, at, key)
				longest = max(longest, hands)
			}
		}
		if longest < n/2 {
			t.Errorf("%d nodes: at most %d hands", n, longest)
		}
	}
}

// keeper is a node that keeps items, and hands them on by its book.
type keeper struct {
	b    *copies.Book
	kept []api.Item
}

func (k *keeper) at(key api.ID) int {
	return slices.IndexFunc(k.kept, func(x api.Item) bool { return x.Key == key })
}

func (k *keeper) take(x api.Item) {
	switch at := k.at(x.Key); {
	case at < 0:
		k.kept = append(k.kept, x)
	case vault.Newer(x.Ver, k.kept[at].Ver):
		k.kept[at] = x
	}
}

// holds tells whether an item is kept, in this very version.
func (k *keeper) holds(x api.Item) bool {
	at := k.at(x.Key)
	return at >= 0 && sameItem(k.kept[at], x)
}

// round is a round in which all hand on at once what is due; how much that was.
func (c circle) round(t *testing.T, ks []keeper) int {
	t.Helper()
	dues := make([][]copies.Due, len(ks))
	all := 0
	for at := range ks {
		ks[at].b.Retain(c.friends[at])
		dues[at] = ks[at].b.Due(c.ids[at], c.friends[at], ks[at].kept)
		all += len(dues[at])
	}
	for at, l := range dues {
		for _, x := range l {
			if !slices.Contains(c.friends[at], x.To) {
				t.Fatalf("of %x: %x hands %v to %x, who is no friend", c.ids, c.ids[at], x.Item, x.To)
			}
			ks[slices.Index(c.ids, x.To)].take(x.Item)
			ks[at].b.Mark(x.To, x.Item.Key, x.Item.Ver)
		}
	}
	return all
}

// P19.2, P19.3: all hold some items, in several versions; behind as many rounds as there are nodes the nearest one has the newest one of each key, behind one more its friends have it too; and then soon nothing is due any more.
func TestAllHandOn(t *testing.T) {
	r := rand.New(rand.NewSource(198))
	for n := 1; n <= 14; n++ {
		for _, half := range []int{1, 1, 2, 3, n} {
			c := circleOf(unlike(drawnIDs(r, n)), half)
			ks := make([]keeper, len(c.ids))
			keys := unlike(append(drawnIDs(r, 4), some(r, keysAround(c.ids), 20)[:4]...))
			newest := keeper{}
			for at := range ks {
				ks[at].b = copies.New()
				for _, key := range keys {
					if r.Intn(3) > 0 {
						x := api.Item{Key: key, Ver: api.Ver{N: int64(1 + r.Intn(3)), Who: c.ids[at]}, Value: []byte{byte(at)}}
						ks[at].take(x)
						newest.take(x)
					}
				}
			}
			for range c.ids {
				c.round(t, ks)
			}
			for _, x := range newest.kept {
				if at := c.nearest(x.Key); !ks[at].holds(x) {
					t.Fatalf("of %x, half %d: behind %d rounds %x hasn't %v", c.ids, half, n, c.ids[at], x)
				}
			}
			c.round(t, ks)
			for _, x := range newest.kept {
				for _, id := range c.friends[c.nearest(x.Key)] {
					if !ks[slices.Index(c.ids, id)].holds(x) {
						t.Fatalf("of %x, half %d: the friend %x of the root hasn't %v", c.ids, half, id, x)
					}
				}
			}
			// The friends may hand back once more what they got; then all of it is noted.
			c.round(t, ks)
			if left := c.round(t, ks); left != 0 {
				t.Fatalf("of %x, half %d: %d items are due still", c.ids, half, left)
			}
		}
	}
}

// isDue tells whether an item is due for one.
func isDue(b *copies.Book, self api.ID, friends []api.ID, x api.Item, to api.ID) bool {
	l := b.Due(self, friends, []api.Item{x})
	return slices.ContainsFunc(l, func(d copies.Due) bool { return d.To == to })
}

// P19.3: what was marked isn't due, whatever is marked of others and of other keys, and whoever else is forgotten; another version is due; and when that is marked, the first one is again.
func TestMarkedIsNotDue(t *testing.T) {
	r := rand.New(rand.NewSource(199))
	for range 400 {
		ids := drawnIDs(r, 1+r.Intn(6))
		ids = unlike(append(ids, shift(ids[0], 9)))
		self, to := ids[0], ids[1]
		friends := append(slices.Clone(ids[1:]), some(r, ids, 2)...)
		r.Shuffle(len(friends), func(i, j int) { friends[i], friends[j] = friends[j], friends[i] })
		key := pick(r, keysAround(ids))
		if !slices.Contains(copies.Owed(self, friends, key), to) {
			key = pick(r, []api.ID{to, self})
		}
		v, w := pick(r, edgeVers()), pick(r, edgeVers())
		if v == w {
			continue
		}
		b := copies.New()
		first, other := api.Item{Key: key, Ver: v, Value: []byte("a")}, api.Item{Key: key, Ver: w, Value: []byte("a")}
		disturb := func() {
			for range r.Intn(6) {
				switch id, at := pick(r, ids), pick(r, keysAround(ids)); {
				case r.Intn(3) == 0:
					b.Retain(append(some(r, ids, 2), to))
				case id != to || at != key:
					b.Mark(id, at, pick(r, edgeVers()))
				}
			}
		}
		for range 3 {
			b.Mark(to, key, v)
			disturb()
			if isDue(b, self, friends, first, to) || !isDue(b, self, friends, other, to) {
				t.Fatalf("of %x: %v was marked of %x and %x, and is due, or %v isn't", ids, v, to, key, w)
			}
			b.Mark(to, key, w)
			disturb()
			if !isDue(b, self, friends, first, to) || isDue(b, self, friends, other, to) {
				t.Fatalf("of %x: %v was marked of %x and %x in place of %v, and is due, or that isn't", ids, w, to, key, v)
			}
		}
	}
}

// P19.3: it holds of the one and of the key that were marked, and of no others.
func TestMarkedOfJustThat(t *testing.T) {
	for _, id := range edgeIDs() {
		for _, key := range edgeIDs() {
			for _, v := range edgeVers()[1:] {
				b := copies.New()
				b.Mark(id, key, v)
				for _, other := range edgeIDs() {
					self := shift(other, 3)
					for _, at := range edgeIDs() {
						// With one friend alone it is owed to that one, whoever the root is.
						if got := isDue(b, self, []api.ID{other}, api.Item{Key: at, Ver: v}, other); got != (other != id || at != key) {
							t.Fatalf("%v was marked of %x and %x: of %x and %x it is due: %v", v, id, key, other, at, got)
						}
					}
				}
			}
		}
	}
}

// P19.3: what was forgotten is due again, of each key; what was retained isn't.
func TestForgottenIsDueAgain(t *testing.T) {
	b := copies.New()
	ids := smalls(9, 14, 20)
	items := []api.Item{item(5, 1, 7, "a"), item(6, 2, 7, "b"), item(4, 1, 8, "c")}
	for _, id := range ids {
		for _, x := range items {
			b.Mark(id, x.Key, x.Ver)
		}
	}
	ask := func(want int, to ...byte) {
		t.Helper()
		l := b.Due(small(5), ids, items)
		for _, x := range l {
			if !slices.Contains(smalls(to...), x.To) {
				t.Errorf("%v is due for %x", x.Item, x.To)
			}
		}
		if len(l) != want {
			t.Errorf("%d are due, want %d", len(l), want)
		}
	}
	ask(0)
	b.Retain(smalls(20, 9, 14, 77))
	ask(0)
	b.Retain(smalls(20, 9))
	ask(3, 14)
	b.Retain(ids)
	ask(3, 14)
	b.Mark(small(14), small(6), ver(2, 7))
	ask(2, 14)
	b.Retain(smalls(14, 14))
	ask(8, 9, 14, 20)
	b.Retain(nil)
	ask(9, 9, 14, 20)
}
