package seek_test

import (
	"bytes"
	"cmp"
	"math"
	"math/bits"
	"math/rand"
	"slices"
	"testing"

	"annulet/api"
	"annulet/seek"
)

// What the chapter says, told a second time: who is wanted is counted one by one, from the distances alone; of the candidates of one identity those with the least of one thing after the other are left.

func small(n byte) api.ID { return api.ID{15: n} }

func smalls(ns ...byte) []api.ID {
	var l []api.ID
	for _, n := range ns {
		l = append(l, small(n))
	}
	return l
}

// direct, told and least are candidates, told shortly, as the chapter's example does.
func direct(id byte, n int) seek.Cand { return seek.Cand{ID: small(id), Leg: 0, N: n} }

func told(id byte, p int64) seek.Cand {
	return seek.Cand{ID: small(id), Leg: 1, P: api.Path{N: p}}
}

func least(id byte, n int) seek.Cand { return seek.Cand{ID: small(id), Leg: 3, N: n} }

// way is how far it is clockwise, in two words, the higher one first.
type way [2]uint64

func words(x api.ID) way {
	var w way
	for i, b := range x {
		w[i/8] = w[i/8]<<8 | uint64(b)
	}
	return w
}

func wayTo(x, from api.ID) way {
	a, b := words(x), words(from)
	low, borrow := bits.Sub64(a[1], b[1], 0)
	high, _ := bits.Sub64(a[0], b[0], borrow)
	return way{high, low}
}

func toldSet(ids []api.ID) []api.ID {
	var l []api.ID
	for _, x := range ids {
		if !slices.Contains(l, x) {
			l = append(l, x)
		}
	}
	return l
}

// toldKnown are friends and candidates, each once, without oneself.
func toldKnown(self api.ID, friends []api.ID, cands []seek.Cand) []api.ID {
	ids := slices.Clone(friends)
	for _, x := range cands {
		ids = append(ids, x.ID)
	}
	return slices.DeleteFunc(toldSet(ids), func(x api.ID) bool { return x == self })
}

// toldWanted tells whether fewer than half of those that are known are met ahead of x, on one way or on the other.
func toldWanted(self, x api.ID, known []api.ID, half int) bool {
	if x == self {
		return false
	}
	there, back := 0, 0
	toX := wayTo(x, self)
	for _, y := range known {
		toY := wayTo(y, self)
		switch slices.Compare(toY[:], toX[:]) {
		case -1:
			there++
		case 1:
			back++
		}
	}
	return there < half || back < half
}

// leasts are those than which none is less, by an order, as they stood.
func leasts(l []seek.Cand, by func(a, b seek.Cand) int) []seek.Cand {
	var out []seek.Cand
	for _, x := range l {
		if !slices.ContainsFunc(l, func(y seek.Cand) bool { return by(y, x) < 0 }) {
			out = append(out, x)
		}
	}
	return out
}

// toldFirst is the one of several of one identity by which it is asked for.
func toldFirst(l []seek.Cand) seek.Cand {
	l = leasts(l, func(a, b seek.Cand) int { return cmp.Compare(a.Leg, b.Leg) })
	if l[0].Leg != 1 {
		return leasts(l, func(a, b seek.Cand) int { return cmp.Compare(a.N, b.N) })[0]
	}
	l = leasts(l, func(a, b seek.Cand) int { return bytes.Compare(a.P.Who[:], b.P.Who[:]) })
	return leasts(l, func(a, b seek.Cand) int { return cmp.Compare(a.P.N, b.P.N) })[0]
}

// toldAsks takes the least identity that is left, till none is.
func toldAsks(self api.ID, friends []api.ID, cands []seek.Cand, half int) []seek.Cand {
	known := toldKnown(self, friends, cands)
	left := slices.DeleteFunc(slices.Clone(cands), func(x seek.Cand) bool {
		return slices.Contains(friends, x.ID) || !toldWanted(self, x.ID, known, half)
	})
	var out []seek.Cand
	for len(left) > 0 {
		these := leasts(left, func(a, b seek.Cand) int { return bytes.Compare(a.ID[:], b.ID[:]) })
		out = append(out, toldFirst(these))
		left = slices.DeleteFunc(left, func(x seek.Cand) bool { return x.ID == these[0].ID })
	}
	return out
}

func asks(t *testing.T, self api.ID, friends []api.ID, cands []seek.Cand, half int) {
	t.Helper()
	got, want := seek.Asks(self, friends, cands, half), toldAsks(self, friends, cands, half)
	if !slices.Equal(got, want) {
		t.Fatalf("Asks(%x, %x, %v, %d) = %v, want %v", self, friends, cands, half, got, want)
	}
}

// lists goes over all lists of at most so many of a pool: in every order, with doubles.
func lists[T any](pool []T, longest int, each func(l []T)) {
	var grow func(l []T)
	grow = func(l []T) {
		each(l)
		if len(l) == longest {
			return
		}
		for _, x := range pool {
			grow(append(slices.Clone(l), x))
		}
	}
	grow(nil)
}

// orders goes over all orders of a list.
func orders[T any](l []T, each func(l []T)) {
	var grow func(head, rest []T)
	grow = func(head, rest []T) {
		if len(rest) == 0 {
			each(head)
		}
		for i, x := range rest {
			grow(append(slices.Clone(head), x), slices.Delete(slices.Clone(rest), i, i+1))
		}
	}
	grow(nil, l)
}

// edgeNumbers are places, Legs and halves as there are, and such as are none; two that are far apart are told apart by no difference.
func edgeNumbers() []int {
	return []int{0, 1, 2, 3, 4, 5, 6, -1, -2, math.MaxInt, math.MaxInt - 1, math.MinInt, math.MinInt + 1, math.MaxInt32, math.MinInt32, 1 << 32, 1<<32 + 1, 256, 257}
}

// edgeIDs are identities whose order hangs on their first byte, on their last, or on all.
func edgeIDs() []api.ID {
	full := api.ID{}
	for i := range full {
		full[i] = 255
	}
	return []api.ID{{}, small(1), small(5), small(255), {14: 1}, {0: 1}, {0: 1, 15: 1}, {0: 127, 15: 255}, {0: 128}, {7: 1}, {8: 1}, full}
}

// edgePaths are keys whose order hangs on who made them, or on their number.
func edgePaths() []api.Path {
	var l []api.Path
	for _, who := range []api.ID{{}, small(1), {14: 1}, {0: 1}, {0: 128}, {0: 255, 15: 255}} {
		for _, n := range []int64{0, 1, -1, math.MaxInt64, math.MinInt64, 1 << 32} {
			l = append(l, api.Path{Who: who, N: n})
		}
	}
	return l
}

func pick[T any](r *rand.Rand, l []T) T { return l[r.Intn(len(l))] }

// drawnID is one of so many, now and then one at an edge, or any.
func drawnID(r *rand.Rand, many int) api.ID {
	switch r.Intn(12) {
	case 0:
		return pick(r, edgeIDs())
	case 1:
		var id api.ID
		r.Read(id[:])
		return id
	}
	n := r.Intn(many)
	// Some stand near 0 on either side, some at the other side of the ring.
	return pick(r, []api.ID{{14: byte(n >> 8), 15: byte(n)}, {0: byte(n), 15: byte(n >> 8)}})
}

func drawnIDs(r *rand.Rand, n, many int) []api.ID {
	var l []api.ID
	for range n {
		l = append(l, drawnID(r, many))
	}
	return l
}

// drawnCand has few Legs, places and paths, so that there are several alike; now and then one at an edge.
func drawnCand(r *rand.Rand, many int) seek.Cand {
	x := seek.Cand{ID: drawnID(r, many), Leg: pick(r, []int{0, 1, 1, 3, 3, 2}), N: r.Intn(3)}
	x.P = api.Path{Who: small(byte(r.Intn(2))), N: int64(r.Intn(2))}
	if r.Intn(10) == 0 {
		x.Leg = pick(r, edgeNumbers())
	}
	if r.Intn(10) == 0 {
		x.N = pick(r, edgeNumbers())
	}
	if r.Intn(10) == 0 {
		x.P = pick(r, edgePaths())
	}
	return x
}

func drawnCands(r *rand.Rand, n, many int) []seek.Cand {
	var l []seek.Cand
	for range n {
		l = append(l, drawnCand(r, many))
	}
	return l
}

// drawnHalf is as there are, about half of so many, or at an edge.
func drawnHalf(r *rand.Rand, known int) int {
	switch r.Intn(4) {
	case 0:
		return pick(r, edgeNumbers())
	case 1:
		return known/2 + r.Intn(4) - 2
	}
	return 1 + r.Intn(api.MaxHalf)
}

// P17.1: the chapter's example, in every order of the candidates.
func TestExample(t *testing.T) {
	want := []seek.Cand{direct(7, 2), least(20, 1)}
	orders([]seek.Cand{told(7, 3), direct(7, 2), least(20, 1)}, func(cands []seek.Cand) {
		if got := seek.Asks(small(5), smalls(9), cands, 1); !slices.Equal(got, want) {
			t.Errorf("Asks(5, 9, %v, 1) = %v, want %v", cands, got, want)
		}
	})
}

// P17.1: the numbers of the Legs.
func TestLegs(t *testing.T) {
	if seek.Direct != 0 || seek.Told != 1 || seek.Least != 3 {
		t.Error(seek.Direct, seek.Told, seek.Least)
	}
}

// P17.1: all lists of at most three candidates and of at most two friends, with the node's own identity among them; Legs that the chapter names and one that it doesn't.
func TestShortLists(t *testing.T) {
	pool := []seek.Cand{direct(7, 2), direct(7, 1), told(7, 3), told(7, 2), least(7, 0), direct(20, 0), told(20, 1), least(4, 1), direct(5, 0), {ID: small(9), Leg: 2, N: 1}, {ID: api.ID{0: 200}, Leg: 3, N: 2}}
	lists(smalls(9, 7, 5, 4), 2, func(friends []api.ID) {
		lists(pool, 3, func(cands []seek.Cand) {
			for _, half := range []int{0, 1, 2} {
				asks(t, small(5), friends, cands, half)
			}
		})
	})
}

// P17.1: all lists of at most four candidates, of one identity.
func TestShortListsOfOne(t *testing.T) {
	pool := []seek.Cand{direct(7, 1), direct(7, 0), {ID: small(7), N: 1, P: api.Path{N: 8}}, told(7, 1), told(7, 0), {ID: small(7), Leg: 1, N: 6, P: api.Path{N: 1}}, {ID: small(7), Leg: 2, N: -1}, least(7, 0), least(7, -1)}
	lists(pool, 4, func(cands []seek.Cand) { asks(t, small(5), nil, cands, 1) })
}

// P17.1: all lists of at most five identities, none of them told in two ways, with every half and every two friends.
func TestShortListsOfMany(t *testing.T) {
	pool := []seek.Cand{direct(1, 4), told(3, 3), least(6, 2), direct(8, 1), {ID: api.ID{0: 255}, Leg: 1}}
	for _, friends := range [][]api.ID{nil, smalls(2), smalls(7, 4), smalls(1, 8), {{0: 128}}} {
		lists(pool, 5, func(cands []seek.Cand) {
			for _, half := range []int{1, 2, 3} {
				asks(t, small(5), friends, cands, half)
			}
		})
	}
}

// P17.1: long lists, drawn the same way in each run.
func TestLongLists(t *testing.T) {
	r := rand.New(rand.NewSource(17))
	for n := range 150 {
		for _, many := range []int{1, 3, 8, 500} {
			friends, cands := drawnIDs(r, r.Intn(n+1), many), drawnCands(r, n, many)
			self := drawnID(r, many)
			asks(t, self, friends, cands, drawnHalf(r, n))
			asks(t, self, nil, cands, drawnHalf(r, n))
		}
	}
}

// P17.1: which one of several of one identity it is asked for by, in every order; the fields that don't count for a Leg lead astray.
func TestSeveralOfOne(t *testing.T) {
	far := api.Path{Who: api.ID{0: 9}, N: 9}
	for i, c := range []struct{ first, other seek.Cand }{
		// Unlike Legs: the lesser one, whatever else stands there.
		{direct(7, 9), told(7, 0)},
		{seek.Cand{ID: small(7), N: 9, P: far}, least(7, -1)},
		{seek.Cand{ID: small(7), Leg: 1, N: 9, P: far}, least(7, 0)},
		{seek.Cand{ID: small(7), Leg: -1, N: 9}, direct(7, 0)},
		{told(7, 9), seek.Cand{ID: small(7), Leg: 2}},
		{seek.Cand{ID: small(7), Leg: 2, N: 9}, least(7, 0)},
		{least(7, 9), seek.Cand{ID: small(7), Leg: 4}},
		{seek.Cand{ID: small(7), Leg: math.MinInt, N: 9}, seek.Cand{ID: small(7), Leg: math.MaxInt}},
		{seek.Cand{ID: small(7), Leg: math.MinInt, N: 9}, direct(7, 0)},
		{direct(7, 9), seek.Cand{ID: small(7), Leg: math.MaxInt}},
		// Told: the lesser P, by Who, then by N; its place doesn't count.
		{told(7, 2), told(7, 3)},
		{told(7, -1), told(7, 0)},
		{seek.Cand{ID: small(7), Leg: 1, N: 5, P: api.Path{N: 2}}, told(7, 3)},
		{seek.Cand{ID: small(7), Leg: 1, P: api.Path{Who: small(1), N: 9}}, seek.Cand{ID: small(7), Leg: 1, P: api.Path{Who: small(2), N: 1}}},
		{seek.Cand{ID: small(7), Leg: 1, P: api.Path{Who: small(255)}}, seek.Cand{ID: small(7), Leg: 1, P: api.Path{Who: api.ID{14: 1}}}},
		{told(7, math.MinInt64), told(7, math.MaxInt64)},
		// Another Leg: the lesser N; its path doesn't count.
		{direct(7, 0), direct(7, 1)},
		{direct(7, -1), direct(7, 0)},
		{seek.Cand{ID: small(7), N: 1, P: far}, direct(7, 2)},
		{least(7, 1), least(7, 2)},
		{seek.Cand{ID: small(7), Leg: 3, N: 1, P: far}, least(7, 2)},
		{seek.Cand{ID: small(7), Leg: 2, N: 1, P: far}, seek.Cand{ID: small(7), Leg: 2, N: 2}},
		{seek.Cand{ID: small(7), Leg: -1, N: 1, P: far}, seek.Cand{ID: small(7), Leg: -1, N: 2}},
		{seek.Cand{ID: small(7), Leg: 4, N: 1, P: far}, seek.Cand{ID: small(7), Leg: 4, N: 2}},
		{seek.Cand{ID: small(7), Leg: 257, N: 1, P: far}, seek.Cand{ID: small(7), Leg: 257, N: 2}},
		{seek.Cand{ID: small(7), Leg: 1<<32 + 1, N: 1, P: far}, seek.Cand{ID: small(7), Leg: 1<<32 + 1, N: 2}},
		{least(7, math.MinInt), least(7, math.MaxInt)},
		{direct(7, math.MinInt), direct(7, 1)},
	} {
		orders([]seek.Cand{c.first, c.other, c.other, direct(20, 1)}, func(cands []seek.Cand) {
			if got := seek.Asks(small(5), nil, cands, 1); !slices.Equal(got, []seek.Cand{c.first, direct(20, 1)}) {
				t.Errorf("%d: Asks(5, none, %v, 1) = %v", i, cands, got)
			}
		})
	}
}

// P17.1: of several alike the first one in the list, whatever stands in the field that doesn't count for its Leg; also where there are many of them.
func TestFirstOfAlike(t *testing.T) {
	for _, leg := range edgeNumbers() {
		for _, many := range []int{2, 3, 11, 40, 200} {
			var cands []seek.Cand
			for i := range many {
				x := seek.Cand{ID: small(7), Leg: leg, N: 1, P: api.Path{Who: small(1), N: 1}}
				// In no order of its own, so that just the place in the list is left.
				mark := (i*7 + 3) % 11
				if leg == 1 {
					x.N = mark
				} else {
					x.P.N = int64(mark)
				}
				cands = append(cands, x)
			}
			for shift := range min(many, 12) {
				l := append(slices.Clone(cands[shift:]), cands[:shift]...)
				if got := seek.Asks(small(5), nil, l, 1); len(got) != 1 || got[0] != l[0] {
					t.Fatalf("%d alike of Leg %d, the first is %v: asked for %v", many, leg, l[0], got)
				}
			}
		}
	}
}

// P17.1: what is answered is the candidate as it was handed in, with all that stands in it.
func TestCandidateStaysWhole(t *testing.T) {
	for _, leg := range edgeNumbers() {
		for _, n := range edgeNumbers() {
			for i, p := range edgePaths() {
				x := seek.Cand{ID: edgeIDs()[1+i%11], Leg: leg, N: n, P: p}
				if got := seek.Asks(api.ID{}, nil, []seek.Cand{x}, 1); len(got) != 1 || got[0] != x {
					t.Fatalf("Asks(0, none, %v, 1) = %v", x, got)
				}
			}
		}
	}
}

// ids are the identities of candidates, in their order.
func ids(cands []seek.Cand) []api.ID {
	var l []api.ID
	for _, x := range cands {
		l = append(l, x.ID)
	}
	return l
}

// P17.1: who is asked for, written out, in every order of the candidates.
func TestWhoIsAskedFor(t *testing.T) {
	cand := func(ns ...byte) []seek.Cand {
		var l []seek.Cand
		for _, n := range ns {
			l = append(l, seek.Cand{ID: small(n), Leg: int(n) % 4, N: int(n)})
		}
		return l
	}
	for _, c := range []struct {
		self    byte
		friends []api.ID
		cands   []seek.Cand
		half    int
		want    []api.ID
	}{
		// Half, from below 0 to more than there are.
		{5, nil, cand(1, 3, 7, 9, 20), -1, nil},
		{5, nil, cand(1, 3, 7, 9, 20), 0, nil},
		{5, nil, cand(1, 3, 7, 9, 20), 1, smalls(3, 7)},
		{5, nil, cand(1, 3, 7, 9, 20), 2, smalls(1, 3, 7, 9)},
		{5, nil, cand(1, 3, 7, 9, 20), 3, smalls(1, 3, 7, 9, 20)},
		{5, nil, cand(1, 3, 7, 9, 20), 4, smalls(1, 3, 7, 9, 20)},
		{5, nil, cand(1, 3, 7, 9, 20), math.MaxInt, smalls(1, 3, 7, 9, 20)},
		{5, nil, cand(1, 3, 7, 9, 20), math.MinInt, nil},
		// The ring closes.
		{5, nil, cand(7, 9, 20), 1, smalls(7, 20)},
		{25, nil, cand(7, 9, 20), 1, smalls(7, 20)},
		{0, nil, cand(1, 255), 1, smalls(1, 255)},
		{5, nil, cand(7), 1, smalls(7)},
		// Friends stand in the way of those behind them, and aren't asked for.
		{5, smalls(6), cand(1, 3, 7, 9, 20), 1, smalls(3)},
		{5, smalls(6, 4), cand(1, 3, 7, 9, 20), 1, nil},
		{5, smalls(6), cand(1, 3, 7, 9, 20), 2, smalls(1, 3, 7)},
		{5, smalls(6, 8, 6), cand(1, 3, 7, 9, 20), 2, smalls(1, 3, 7)},
		{5, smalls(20), cand(1, 3, 7, 9), 1, smalls(3, 7)},
		// Candidates who are friends.
		{5, smalls(7), cand(1, 3, 7, 9, 20), 1, smalls(3)},
		{5, smalls(7, 3), cand(1, 3, 7, 9, 20), 1, nil},
		{5, smalls(7, 3), cand(1, 3, 7, 9, 20), 2, smalls(1, 9)},
		{5, smalls(1, 3, 7, 9, 20), cand(1, 3, 7, 9, 20), 9, nil},
		// The node itself, as a candidate, as a friend, as both; it stands in nobody's way.
		{5, nil, cand(5), 1, nil},
		{5, smalls(5), nil, 1, nil},
		{5, smalls(5), cand(5), 3, nil},
		{5, smalls(5), cand(3, 5, 7, 9), 1, smalls(3, 7)},
		{0, nil, cand(0, 3, 7, 9), 1, smalls(3, 9)},
		{9, smalls(7), cand(3, 7, 9), 2, smalls(3)},
		// Doubles stand in the way just once.
		{5, smalls(6, 6), cand(3, 7, 7, 9), 2, smalls(3, 7, 9)},
		{5, smalls(6, 6, 4, 4), cand(1, 3, 7, 9), 2, smalls(3, 7)},
		// Nobody.
		{5, nil, nil, 2, nil},
		{5, smalls(1, 2), nil, 2, nil},
	} {
		orders(c.cands, func(cands []seek.Cand) {
			if got := ids(seek.Asks(small(c.self), c.friends, cands, c.half)); !slices.Equal(got, c.want) {
				t.Errorf("Asks(%d, %x, %v, %d) = %x, want %x", c.self, c.friends, cands, c.half, got, c.want)
			}
		})
	}
}

// P17.1: each half, from below 0 to beyond half of all that are known, at lists of each length.
func TestEveryHalf(t *testing.T) {
	r := rand.New(rand.NewSource(171))
	for n := range 24 {
		friends, cands, self := drawnIDs(r, n/3, 40), drawnCands(r, n, 40), drawnID(r, 40)
		for half := -2; half <= n+2; half++ {
			asks(t, self, friends, cands, half)
		}
		for _, half := range edgeNumbers() {
			asks(t, self, friends, cands, half)
		}
	}
}

// P17.1: identities at every edge, as the node, as a friend and as candidates.
func TestIdentitiesAtEdges(t *testing.T) {
	var cands []seek.Cand
	for i, id := range edgeIDs() {
		cands = append(cands, seek.Cand{ID: id, Leg: i % 4, N: -i})
	}
	for _, self := range append(edgeIDs(), small(2), api.ID{0: 200}) {
		for _, friend := range edgeIDs() {
			for half := range 8 {
				asks(t, self, []api.ID{friend}, cands, half)
				asks(t, self, []api.ID{self, friend}, append([]seek.Cand{{ID: friend}}, cands...), half)
			}
		}
	}
}

// P17.1: two candidates of one identity, with every two edges of Leg, place and path.
func TestPairsAtEdges(t *testing.T) {
	for _, leg := range edgeNumbers() {
		for _, other := range edgeNumbers() {
			for i, n := range edgeNumbers() {
				a := seek.Cand{ID: small(7), Leg: leg, N: n, P: edgePaths()[i]}
				b := seek.Cand{ID: small(7), Leg: other, N: edgeNumbers()[(i*5+2)%19], P: edgePaths()[35-i]}
				asks(t, small(5), nil, []seek.Cand{a, b}, 1)
				asks(t, small(5), nil, []seek.Cand{b, a}, 1)
			}
		}
	}
	for _, p := range edgePaths() {
		for i, q := range edgePaths() {
			asks(t, small(5), nil, []seek.Cand{{ID: small(7), Leg: 1, N: -i, P: p}, {ID: small(7), Leg: 1, P: q}}, 1)
		}
	}
}

// R1, R4: nil and empty lists mean the same.
func TestNone(t *testing.T) {
	some := []seek.Cand{direct(7, 2), least(20, 1)}
	for _, self := range edgeIDs() {
		for _, half := range edgeNumbers() {
			for _, friends := range [][]api.ID{nil, {}, smalls(3), {self}} {
				for _, cands := range [][]seek.Cand{nil, {}} {
					if got := seek.Asks(self, friends, cands, half); len(got) != 0 {
						t.Errorf("Asks(%x, %x, none, %d) = %v", self, friends, half, got)
					}
				}
			}
			if a, b := seek.Asks(self, nil, some, half), seek.Asks(self, []api.ID{}, some, half); !slices.Equal(a, b) {
				t.Errorf("Asks(%x, none, %v, %d) = %v, with an empty list %v", self, some, half, a, b)
			}
		}
	}
}

// R1: very long lists end too, with friends ahead of those that are asked for and without.
func TestVeryLongLists(t *testing.T) {
	const many = 1 << 17
	cands := make([]seek.Cand, many)
	friends := make([]api.ID, many)
	for i := range cands {
		cands[i] = seek.Cand{ID: api.ID{1: byte(i >> 16), 2: byte(i >> 8), 3: byte(i), 15: 1}, Leg: 3, N: i}
		friends[i] = api.ID{1: byte(i >> 16), 2: byte(i >> 8), 3: byte(i)}
	}
	if got := seek.Asks(api.ID{}, nil, cands, math.MaxInt); len(got) != many || !slices.Equal(got, cands) {
		t.Errorf("of %d all are wanted, asked for %d", many, len(got))
	}
	if got := seek.Asks(api.ID{15: 2}, friends, cands, many/2); len(got) != many/2 {
		t.Errorf("asked for %d of %d", len(got), many/2)
	}
	if got := seek.Asks(api.ID{}, ids(cands), cands, math.MaxInt); len(got) != 0 {
		t.Errorf("all are friends, asked for %d", len(got))
	}
}
