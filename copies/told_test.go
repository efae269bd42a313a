package copies_test

import (
	"bytes"
	"math"
	"math/bits"
	"math/rand"
	"slices"
	"testing"

	"annulet/api"
	"annulet/copies"
)

// What the chapter says, told a second time: who is nearer is told from two words of 64 bits, and on small circles by walking away from the key; a book is the row of all that was ever told to it, gone through from its end whenever it is asked.

func small(n byte) api.ID { return api.ID{15: n} }

func smalls(ns ...byte) []api.ID {
	var l []api.ID
	for _, n := range ns {
		l = append(l, small(n))
	}
	return l
}

func ver(n int64, who byte) api.Ver { return api.Ver{N: n, Who: small(who)} }

func item(key byte, n int64, who byte, value string) api.Item {
	return api.Item{Key: small(key), Ver: ver(n, who), Value: []byte(value)}
}

// way is how far it is clockwise, in two words, the higher one first.
type way [2]uint64

func words(x api.ID) way {
	var w way
	for i, b := range x {
		w[i/8] = w[i/8]<<8 | uint64(b)
	}
	return w
}

func (w way) id() api.ID {
	var x api.ID
	for i := range x {
		x[i] = byte(w[i/8] >> (56 - 8*(i%8)))
	}
	return x
}

func wayTo(x, from api.ID) way {
	a, b := words(x), words(from)
	low, borrow := bits.Sub64(a[1], b[1], 0)
	high, _ := bits.Sub64(a[0], b[0], borrow)
	return way{high, low}
}

// shift is the identity that stands n steps clockwise from x.
func shift(x api.ID, n int64) api.ID {
	w := words(x)
	low, carry := bits.Add64(w[1], uint64(n), 0)
	high, _ := bits.Add64(w[0], uint64(n>>63), carry)
	return way{high, low}.id()
}

// opposite stands as far from x both ways.
func opposite(x api.ID) api.ID {
	x[0] ^= 128
	return x
}

func less(a, b way) bool { return a[0] < b[0] || a[0] == b[0] && a[1] < b[1] }

// toldNearer: the shorter way counts, and of two that are as long the one that goes on clockwise.
func toldNearer(d, a, b api.ID) bool {
	short := func(x api.ID) (way, bool) {
		on, back := wayTo(x, d), wayTo(d, x)
		if less(back, on) {
			return back, false
		}
		return on, true
	}
	farA, onA := short(a)
	farB, onB := short(b)
	return less(farA, farB) || farA == farB && onA && !onB
}

// toldRoot holds self against each friend alone.
func toldRoot(self api.ID, friends []api.ID, key api.ID) bool {
	for _, x := range friends {
		if toldNearer(key, x, self) {
			return false
		}
	}
	return true
}

// toldSorted takes the least one that is left, till none is.
func toldSorted(self api.ID, ids []api.ID) []api.ID {
	left := slices.DeleteFunc(slices.Clone(ids), func(x api.ID) bool { return x == self })
	var out []api.ID
	for len(left) > 0 {
		least := left[0]
		for _, x := range left {
			if bytes.Compare(x[:], least[:]) < 0 {
				least = x
			}
		}
		out = append(out, least)
		left = slices.DeleteFunc(left, func(x api.ID) bool { return x == least })
	}
	return out
}

// toldNearest are those of some than which none is nearer: one, if there is any.
func toldNearest(ids []api.ID, key api.ID) []api.ID {
	for _, x := range ids {
		if !slices.ContainsFunc(ids, func(y api.ID) bool { return toldNearer(key, y, x) }) {
			return []api.ID{x}
		}
	}
	return nil
}

func toldOwed(self api.ID, friends []api.ID, key api.ID) []api.ID {
	if toldRoot(self, friends, key) {
		return toldSorted(self, friends)
	}
	return toldNearest(friends, key)
}

// told is one call that changed a book: a Mark, or a Retain of these.
type told struct {
	marks   bool
	id, key api.ID
	v       api.Ver
	friends []api.ID
}

// row is all that was told to a book, in order.
type row []told

// noted is what the last Mark says that no Retain behind it forgot.
func (l row) noted(id, key api.ID) api.Ver {
	for i := len(l) - 1; i >= 0; i-- {
		switch x := l[i]; {
		case x.marks && x.id == id && x.key == key:
			return x.v
		case !x.marks && !slices.Contains(x.friends, id):
			return api.Ver{}
		}
	}
	return api.Ver{}
}

func (l row) due(self api.ID, friends []api.ID, items []api.Item) []copies.Due {
	var out []copies.Due
	for _, x := range items {
		for _, id := range toldOwed(self, friends, x.Key) {
			if v := l.noted(id, x.Key); v.N != x.Ver.N || v.Who != x.Ver.Who {
				out = append(out, copies.Due{To: id, Item: x})
			}
		}
	}
	return out
}

func sameItem(a, b api.Item) bool {
	return a.Key == b.Key && a.Ver == b.Ver && bytes.Equal(a.Value, b.Value)
}

func sameDue(a, b copies.Due) bool { return a.To == b.To && sameItem(a.Item, b.Item) }

// bench holds a book against what is told of it.
type bench struct {
	*testing.T
	b *copies.Book
	l row
}

func newBench(t *testing.T) *bench { return &bench{T: t, b: copies.New()} }

func (b *bench) mark(id, key api.ID, v api.Ver) {
	b.b.Mark(id, key, v)
	b.l = append(b.l, told{marks: true, id: id, key: key, v: v})
}

func (b *bench) retain(friends ...api.ID) {
	b.b.Retain(friends)
	b.l = append(b.l, told{friends: slices.Clone(friends)})
}

func (b *bench) due(self api.ID, friends []api.ID, items []api.Item) []copies.Due {
	b.Helper()
	got, want := b.b.Due(self, friends, items), b.l.due(self, friends, items)
	if !slices.EqualFunc(got, want, sameDue) {
		b.Fatalf("behind %v: Due(%x, %x, %v) = %v, want %v", b.l, self, friends, items, got, want)
	}
	return got
}

// owed holds Root and Owed.
func owed(t *testing.T, self api.ID, friends []api.ID, key api.ID) {
	t.Helper()
	if got, want := copies.Root(self, friends, key), toldRoot(self, friends, key); got != want {
		t.Fatalf("Root(%x, %x, %x) = %v, want %v", self, friends, key, got, want)
	}
	if got, want := copies.Owed(self, friends, key), toldOwed(self, friends, key); !slices.Equal(got, want) {
		t.Fatalf("Owed(%x, %x, %x) = %x, want %x", self, friends, key, got, want)
	}
}

// lists goes over all lists of at most so many of a pool: in every order, with doubles.
func lists[T any](pool []T, longest int, each func(l []T)) {
	var grow func(l []T)
	grow = func(l []T) {
		each(l)
		if len(l) == longest {
			return
		}
		for _, x := range pool {
			grow(append(slices.Clone(l), x))
		}
	}
	grow(nil)
}

// edgeIDs stand at 0 and opposite to it, beside both, and where a byte or a word turns over.
func edgeIDs() []api.ID {
	turn := api.ID{7: 1}
	return []api.ID{{}, shift(api.ID{}, -1), small(1), shift(api.ID{}, -2), opposite(api.ID{}), opposite(small(1)), opposite(shift(api.ID{}, -1)), turn, shift(turn, -1), small(255), {14: 1}, {0: 1}}
}

// edgeVers are versions as there are, the zero one, and such as no vault keeps; some are alike in one half.
func edgeVers() []api.Ver {
	var l []api.Ver
	for _, n := range []int64{0, 1, 2, -1, 1 << 32, 1<<62 - 1, math.MaxInt64, math.MinInt64} {
		for _, who := range []api.ID{{}, small(1), {0: 1}, {7: 1}, {8: 1}, shift(api.ID{}, -1)} {
			l = append(l, api.Ver{N: n, Who: who})
		}
	}
	return l
}

func pick[T any](r *rand.Rand, l []T) T { return l[r.Intn(len(l))] }

// drawnIDs are n identities: some close together, some opposite to one that is there, some doubles, some at edges.
func drawnIDs(r *rand.Rand, n int) []api.ID {
	var ids []api.ID
	for len(ids) < n {
		x := way{r.Uint64(), r.Uint64()}.id()
		if len(ids) > 0 {
			switch r.Intn(8) {
			case 0:
				x = shift(pick(r, ids), int64(r.Intn(9)-4))
			case 1:
				x = opposite(pick(r, ids))
			case 2:
				x = pick(r, ids)
			case 3:
				x = pick(r, edgeIDs())
			}
		}
		ids = append(ids, x)
	}
	return ids
}

// unlike are those of some that are there once or more, each once.
func unlike(ids []api.ID) []api.ID {
	var l []api.ID
	for _, x := range ids {
		if !slices.Contains(l, x) {
			l = append(l, x)
		}
	}
	return l
}

// middle stands between a and b on the way clockwise, as far from both, if that way has an even number of steps.
func middle(a, b api.ID) api.ID {
	w := wayTo(b, a)
	w = way{w[0] >> 1, w[1]>>1 | w[0]<<63}
	from := words(a)
	low, carry := bits.Add64(from[1], w[1], 0)
	high, _ := bits.Add64(from[0], w[0], carry)
	return way{high, low}.id()
}

// keysAround are keys that some identities make interesting: their own, those beside them, opposite to them, and in the middle of two, on both ways.
func keysAround(ids []api.ID) []api.ID {
	keys := edgeIDs()
	for _, x := range ids {
		keys = append(keys, x, shift(x, 1), shift(x, -1), opposite(x))
		for _, y := range ids {
			m := middle(x, y)
			keys = append(keys, m, shift(m, 1), shift(m, -1))
		}
	}
	return keys
}
