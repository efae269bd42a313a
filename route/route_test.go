package route_test

import (
	"bytes"
	"encoding/binary"
	"math"
	"math/bits"
	"math/rand"
	"slices"
	"testing"

	"annulet/api"
	"annulet/route"
	"annulet/table"
)

// The second telling gives each choice a rank, a row of numbers without a sign, the first that differs decides: how far its identity is, how far clockwise, whether it has N -1; and, of those that haven't, whether it is a neighbour, and what is left of it that counts.

// words are an identity's high and low half.
func words(a api.ID) (hi, lo uint64) {
	return binary.BigEndian.Uint64(a[:8]), binary.BigEndian.Uint64(a[8:])
}

// clockwise is how far it is from one identity to another, as a row of two.
func clockwise(from, to api.ID) []uint64 {
	fromHi, fromLo := words(from)
	toHi, toLo := words(to)
	lo, borrow := bits.Sub64(toLo, fromLo, 0)
	hi, _ := bits.Sub64(toHi, fromHi, borrow)
	return []uint64{hi, lo}
}

func shorter(a, b []uint64) []uint64 {
	if slices.Compare(b, a) < 0 {
		return b
	}
	return a
}

// nearness is lesser for the one of two identities that is nearer to d.
func nearness(d, id api.ID) []uint64 {
	return slices.Concat(shorter(clockwise(d, id), clockwise(id, d)), clockwise(d, id))
}

// signed is a number that is ordered without its sign as n is with it.
func signed(n int64) uint64 { return uint64(n) + 1<<63 }

// first is nought for what comes first.
func first(is bool) uint64 {
	if is {
		return 0
	}
	return 1
}

func keyRank(p api.Path) []uint64 {
	hi, lo := words(p.Who)
	return []uint64{hi, lo, signed(p.N)}
}

func rank(d api.ID, c route.Choice) []uint64 {
	r := append(nearness(d, c.ID), first(c.N == -1))
	if c.N == -1 {
		return r
	}
	r = append(r, first(c.Near))
	if !c.Near {
		r = append(r, keyRank(c.P)...)
	}
	return append(r, signed(int64(c.N)))
}

func toldBefore(d api.ID, a, b route.Choice) bool {
	return slices.Compare(rank(d, a), rank(d, b)) < 0
}

func toldNearer(d, a, b api.ID) bool {
	return slices.Compare(nearness(d, a), nearness(d, b)) < 0
}

// toldKnown takes the entries in any order; they have keys that are not the same.
func toldKnown(self api.ID, nears []api.Near, entries []api.Entry) []route.Choice {
	var l []route.Choice
	l = append(l, route.Choice{ID: self, N: -1})
	for i := range nears {
		l = append(l, route.Choice{ID: nears[i].ID, N: nears[i].N, Near: true})
	}
	byKeys := slices.Clone(entries)
	slices.SortFunc(byKeys, func(a, b api.Entry) int { return slices.Compare(keyRank(a.P), keyRank(b.P)) })
	for _, x := range byKeys {
		both := []route.Choice{{ID: x.A, P: x.P, N: x.Na}, {ID: x.B, P: x.P, N: x.Nb}}
		for _, c := range both {
			if c.N != -1 { // what is right has nothing else below 0
				l = append(l, c)
			}
		}
	}
	return l
}

// toldChoose holds each against all.
func toldChoose(d api.ID, known []route.Choice) route.Choice {
	for _, c := range known {
		isBefore := func(x route.Choice) bool { return toldBefore(d, x, c) }
		if !slices.ContainsFunc(known, isBefore) {
			return c
		}
	}
	panic("each has one before it")
}

// tableOf has these entries; it takes them in the order in which they stand.
func tableOf(t *testing.T, entries ...api.Entry) *table.Table {
	t.Helper()
	tab := table.New(api.MaxPaths)
	for _, x := range entries {
		if e := tab.Add(x); e != api.OK {
			t.Fatalf("Add(%v) = %v", x, e)
		}
	}
	return tab
}

// looks holds Known, and Choose for some d, against the second telling.
func looks(t *testing.T, ds []api.ID, self api.ID, nears []api.Near, entries []api.Entry) {
	t.Helper()
	tab := tableOf(t, entries...)
	known := toldKnown(self, nears, entries)
	if l := route.Known(self, nears, tab); !slices.Equal(l, known) {
		t.Fatalf("Known(%x, %v, %v) = %v, want %v", self, nears, entries, l, known)
	}
	for _, d := range ds {
		if c, want := route.Choose(d, self, nears, tab), toldChoose(d, known); c != want {
			t.Fatalf("Choose(%x, %x, %v, %v) = %v, want %v", d, self, nears, entries, c, want)
		}
	}
}

// id is a small number; below 0 it is that far from zero the other way.
func id(n int64) api.ID {
	return shift(api.ID{}, n)
}

// shift is the identity that stands n steps clockwise from a.
func shift(a api.ID, n int64) (b api.ID) {
	hi, lo := words(a)
	high := uint64(0)
	if n < 0 {
		high = math.MaxUint64
	}
	lo, carry := bits.Add64(lo, uint64(n), 0)
	hi, _ = bits.Add64(hi, high, carry)
	binary.BigEndian.PutUint64(b[:8], hi)
	binary.BigEndian.PutUint64(b[8:], lo)
	return b
}

// opposite stands as far from a both ways.
func opposite(a api.ID) api.ID {
	a[0] ^= 128
	return a
}

// someIDs stand around zero, around its opposite, and apart by one byte.
func someIDs() []api.ID {
	far := opposite(api.ID{})
	return []api.ID{{}, id(1), id(-1), {1}, {255}, far, shift(far, 1), shift(far, -1), {7: 1}, {8: 128}}
}

// keys differ in Who alone, and in N alone, with its sign and beyond 32 bits.
func keys() []api.Path {
	return []api.Path{{}, {N: 1}, {N: -1}, {N: 1 << 32}, {Who: id(1)}, {Who: api.ID{128}, N: math.MinInt64}, {Who: api.ID{128}, N: math.MaxInt64}}
}

// numbers are neighbours, and such as are none.
func numbers() []int {
	return []int{-1, 0, 1, 5, 6, -2, math.MaxInt32 + 1, math.MaxInt, math.MinInt}
}

// choices are all that can be made of these; also such as Known never tells.
func choices(ids []api.ID, keys []api.Path, numbers []int) []route.Choice {
	var l []route.Choice
	for _, id := range ids {
		for _, p := range keys {
			for _, n := range numbers {
				l = append(l, route.Choice{ID: id, P: p, N: n}, route.Choice{ID: id, P: p, N: n, Near: true})
			}
		}
	}
	return l
}

func itself(self api.ID) route.Choice { return route.Choice{ID: self, N: -1} }

func near(id api.ID, n int) route.Choice { return route.Choice{ID: id, Near: true, N: n} }

func over(id api.ID, p api.Path, n int) route.Choice { return route.Choice{ID: id, P: p, N: n} }

// P13.1: the chapter's example.
func TestExample(t *testing.T) {
	p := api.Path{Who: id(5), N: 1}
	nears := []api.Near{{N: 1, ID: id(9)}}
	tab := tableOf(t, api.Entry{P: p, A: id(5), B: id(20), Na: -1, Nb: 2})
	for d, want := range map[int64]route.Choice{
		21: over(id(20), p, 2),
		20: over(id(20), p, 2),
		15: over(id(20), p, 2),
		14: near(id(9), 1),
		9:  near(id(9), 1),
		7:  near(id(9), 1),
		6:  itself(id(5)),
		5:  itself(id(5)),
		0:  itself(id(5)),
	} {
		if c := route.Choose(id(d), id(5), nears, tab); c != want {
			t.Errorf("Choose(%d) = %v, want %v", d, c, want)
		}
	}
	known := []route.Choice{itself(id(5)), near(id(9), 1), over(id(20), p, 2)}
	if l := route.Known(id(5), nears, tab); !slices.Equal(l, known) {
		t.Errorf("Known = %v, want %v", l, known)
	}
}

// P13.1: Before of any two choices of one identity, and of any two identities, by whatever way.
func TestBeforeOfTwo(t *testing.T) {
	ways := choices([]api.ID{id(3)}, keys(), numbers())
	few := choices(someIDs(), keys()[:2], []int{-1, 0, 1})
	for _, l := range [][]route.Choice{ways, few} {
		for _, d := range []api.ID{id(3), {}, id(1), id(-1), {1}, {64}, opposite(id(3)), opposite(id(0)), {7: 1}} {
			for _, a := range l {
				for _, b := range l {
					if got := route.Before(d, a, b); got != toldBefore(d, a, b) {
						t.Fatalf("Before(%x, %v, %v) = %v", d, a, b, got)
					}
				}
			}
		}
	}
}

// P13.1: identities and keys that differ in one byte alone, each byte, both ways.
func TestBeforeByBytes(t *testing.T) {
	base := api.ID{}
	for i := range base {
		base[i] = 100
	}
	for i := range base {
		for _, by := range []byte{99, 101, 0, 255, 228} {
			other := base
			other[i] = by
			for _, d := range []api.ID{base, other, {}, opposite(base), id(-1)} {
				a, b := over(base, api.Path{}, 2), over(other, api.Path{}, 1)
				if got := route.Before(d, a, b); got != toldBefore(d, a, b) || got == route.Before(d, b, a) {
					t.Fatalf("Before(%x, %v, %v) = %v", d, a, b, got)
				}
				a, b = over(d, api.Path{Who: base, N: 9}, 2), over(d, api.Path{Who: other, N: 1}, 1)
				if got := route.Before(d, a, b); got != (by > 100) || got == route.Before(d, b, a) {
					t.Fatalf("Before(%x, %v, %v) = %v", d, a, b, got)
				}
			}
		}
	}
}

// matrix is Before of any two of a list.
func matrix(d api.ID, l []route.Choice) [][]bool {
	m := make([][]bool, len(l))
	for i, a := range l {
		for _, b := range l {
			m[i] = append(m[i], route.Before(d, a, b))
		}
	}
	return m
}

// P13.1: Before is an order: of two at most one is before, none is before itself, who is before one is before whom that one is before, and whoever stands with one (neither is before) stands as that one does to any third.
func TestBeforeOfThree(t *testing.T) {
	l := choices([]api.ID{id(3), id(5), id(-3)}, keys()[:4], []int{-1, 0, 1, -2, 7})
	for _, d := range []api.ID{id(4), id(3), id(0), opposite(id(0))} {
		m := matrix(d, l)
		for a := range l {
			for b := range l {
				if m[a][b] && m[b][a] || a == b && m[a][b] {
					t.Fatalf("for %x: %v and %v", d, l[a], l[b])
				}
				alike := !m[a][b] && !m[b][a]
				for c := range l {
					if m[a][b] && m[b][c] && !m[a][c] || alike && m[a][c] != m[b][c] {
						t.Fatalf("for %x: %v, %v and %v", d, l[a], l[b], l[c])
					}
				}
			}
		}
	}
}

// P13.1: Before, written out: the first one is before the second, not the other way round.
func TestBeforeAtEdges(t *testing.T) {
	x, low, high := id(9), api.Path{Who: id(1), N: 7}, api.Path{Who: id(1), N: 8}
	before := []struct {
		what string
		a, b route.Choice
	}{
		{"the nearer one, by a path, ahead of the node itself", over(id(8), high, 5), itself(id(6))},
		{"the nearer one, by a path, ahead of a neighbour", over(id(8), high, 5), near(id(6), 0)},
		{"as far, clockwise behind d", over(id(9), high, 5), itself(id(5))},
		{"the node itself ahead of a neighbour", itself(x), near(x, 0)},
		{"the node itself ahead of a neighbour with the least number", itself(x), near(x, math.MinInt)},
		{"the node itself ahead of a path", itself(x), over(x, api.Path{N: -1}, 0)},
		{"a Near one with -1 ahead of another one", near(x, -1), near(x, -2)},
		{"a path with -1 ahead of a neighbour", over(x, high, -1), near(x, 0)},
		{"a path with -1 ahead of a lesser key", over(x, high, -1), over(x, low, 0)},
		{"two with -1, one nearer to d: that one, though the other is Near", itself(id(8)), near(id(6), -1)},
		{"a neighbour ahead of a path", near(x, 5), over(x, low, 0)},
		{"a neighbour with the greatest number ahead of a path", near(x, math.MaxInt), over(x, low, math.MinInt)},
		{"the lesser neighbour", near(x, 1), near(x, 2)},
		{"the lesser neighbour, below 0", near(x, -3), near(x, -2)},
		{"the lesser neighbour, whatever its path", route.Choice{ID: x, Near: true, P: high, N: 1}, route.Choice{ID: x, Near: true, P: low, N: 2}},
		{"the lesser key, by N", over(x, low, 5), over(x, high, 0)},
		{"the lesser key, by Who", over(x, api.Path{Who: id(1), N: 9}, 5), over(x, api.Path{Who: id(2), N: 1}, 0)},
		{"the lesser key, by the sign of N", over(x, api.Path{N: -1}, 5), over(x, api.Path{N: 0}, 0)},
		{"one key, the lesser neighbour", over(x, low, 3), over(x, low, 4)},
		{"one key, far apart", over(x, low, math.MinInt), over(x, low, math.MaxInt)},
	}
	for _, c := range before {
		if !route.Before(id(7), c.a, c.b) {
			t.Errorf("%s: it isn't", c.what)
		}
		if route.Before(id(7), c.b, c.a) {
			t.Errorf("%s: the other way round too", c.what)
		}
	}
}

// P13.1: of these two neither is before the other.
func TestNeitherIsBefore(t *testing.T) {
	x, low, high := id(9), api.Path{N: 7}, api.Path{N: 8}
	for what, c := range map[string][2]route.Choice{
		"the same":                           {over(x, low, 3), over(x, low, 3)},
		"twice the node itself":              {itself(x), itself(x)},
		"the node itself and a Near one":     {itself(x), near(x, -1)},
		"two with -1, with keys":             {over(x, low, -1), over(x, high, -1)},
		"two with -1, one with a key":        {itself(x), over(x, high, -1)},
		"two with -1, one Near, one a path":  {near(x, -1), over(x, low, -1)},
		"two with -1, one Near, with a key":  {{ID: x, Near: true, P: high, N: -1}, over(x, low, -1)},
		"two Near ones with -1":              {near(x, -1), near(x, -1)},
		"two Near ones with -1, with keys":   {{ID: x, Near: true, P: low, N: -1}, {ID: x, Near: true, P: high, N: -1}},
		"one neighbour, with unlike keys":    {{ID: x, Near: true, P: low, N: 2}, {ID: x, Near: true, P: high, N: 2}},
		"one neighbour with the least place": {near(x, math.MinInt), near(x, math.MinInt)},
	} {
		for _, d := range someIDs() {
			if route.Before(d, c[0], c[1]) || route.Before(d, c[1], c[0]) {
				t.Errorf("%s: one is, for %x", what, d)
			}
		}
	}
}

// P13.1, P13.2: two that are as far from d, on either side of it: the one clockwise behind d, by whatever ways they are reached; also around zero, and beside what is opposite.
func TestEitherSide(t *testing.T) {
	for _, d := range someIDs() {
		for _, by := range []int64{1, 2, 1 << 40, math.MaxInt64} {
			behind, ahead := shift(d, by), shift(d, -by)
			for _, a := range choices([]api.ID{behind}, keys()[:2], []int{-1, 0, 3}) {
				for _, b := range choices([]api.ID{ahead}, keys()[:2], []int{-1, 0, 3}) {
					if !route.Before(d, a, b) || route.Before(d, b, a) {
						t.Fatalf("for %x: %v and %v", d, a, b)
					}
				}
			}
			if c := route.Choose(d, ahead, []api.Near{{N: 2, ID: behind}}, nil); c != near(behind, 2) {
				t.Errorf("for %x: %x chooses %v", d, ahead, c)
			}
			if c := route.Choose(d, behind, []api.Near{{N: 2, ID: ahead}}, nil); c != itself(behind) {
				t.Errorf("for %x: %x chooses %v", d, behind, c)
			}
		}
	}
}

// P13.1: d that is the node, a neighbour, a path's end at either side, or nobody's, each with one farther off.
func TestWhoseD(t *testing.T) {
	p, q := api.Path{Who: id(100), N: 1}, api.Path{Who: id(200), N: 2}
	nears := []api.Near{{N: 0, ID: id(50)}, {N: 3, ID: id(300)}}
	tab := tableOf(t,
		api.Entry{P: p, A: id(100), B: id(400), Na: -1, Nb: 3},
		api.Entry{P: q, A: id(200), B: id(500), Na: 0, Nb: 4})
	for d, want := range map[int64]route.Choice{
		100: itself(id(100)),
		50:  near(id(50), 0),
		300: near(id(300), 3),
		400: over(id(400), p, 3),
		200: over(id(200), q, 0),
		500: over(id(500), q, 4),
		-70: near(id(50), 0),
		74:  near(id(50), 0),
		75:  itself(id(100)),
		149: itself(id(100)),
		150: over(id(200), q, 0),
		351: over(id(400), p, 3),
		999: over(id(500), q, 4),
	} {
		if c := route.Choose(id(d), id(100), nears, tab); c != want {
			t.Errorf("Choose(%d) = %v, want %v", d, c, want)
		}
	}
}

// P13.1: one identity that is reached by several ways, whatever stands first.
func TestSeveralWays(t *testing.T) {
	x, self := id(40), id(10)
	low, high := api.Path{Who: self, N: 3}, api.Path{Who: self, N: 4}
	lesser, greater := api.Path{Who: id(2), N: 9}, api.Path{Who: id(3), N: 1}
	to := func(p api.Path, n int) api.Entry { return api.Entry{P: p, A: self, B: x, Na: -1, Nb: n} }
	from := func(p api.Path, n int) api.Entry { return api.Entry{P: p, A: x, B: id(70), Na: n, Nb: 5} }
	for what, c := range map[string]struct {
		nears   []api.Near
		entries []api.Entry
		want    route.Choice
	}{
		"a neighbour and a path's end": {[]api.Near{{N: 5, ID: x}}, []api.Entry{to(low, 0)}, near(x, 5)},
		"two neighbours":               {[]api.Near{{N: 2, ID: x}, {N: 1, ID: x}, {N: 3, ID: x}}, nil, near(x, 1)},
		"two keys that differ in N":    {nil, []api.Entry{to(high, 0), to(low, 4)}, over(x, low, 4)},
		"two keys that differ in Who":  {nil, []api.Entry{from(greater, 0), from(lesser, 4)}, over(x, lesser, 4)},
		"ends at either side":          {nil, []api.Entry{from(high, 0), to(low, 4)}, over(x, low, 4)},
		"the other side":               {nil, []api.Entry{to(high, 0), from(low, 4)}, over(x, low, 4)},
		"a neighbour among paths":      {[]api.Near{{N: 1, ID: id(200)}, {N: 4, ID: x}}, []api.Entry{to(low, 0), from(lesser, 0)}, near(x, 4)},
	} {
		for _, d := range []api.ID{x, id(41), id(39)} {
			if got := route.Choose(d, self, c.nears, tableOf(t, c.entries...)); got != c.want {
				t.Errorf("%s: for %x %v, want %v", what, d, got, c.want)
			}
			turned := slices.Clone(c.entries)
			slices.Reverse(turned)
			looks(t, []api.ID{d}, self, c.nears, turned)
		}
	}
}

// P13.2: the node's own identity, as a neighbour's and as a path's end, is told, but never chosen by that way.
func TestOwnIdentity(t *testing.T) {
	for _, self := range someIDs() {
		p := api.Path{N: math.MinInt64}
		nears := []api.Near{{N: 0, ID: self}, {N: math.MinInt, ID: self}, {N: -2, ID: self}, {N: -1, ID: self}}
		entries := []api.Entry{{P: p, A: self, B: shift(self, 9), Na: 0, Nb: 1}, {P: api.Path{N: 5}, A: shift(self, 9), B: self, Na: 2, Nb: 0}}
		tab := tableOf(t, entries...)
		known := []route.Choice{
			itself(self), near(self, 0), near(self, math.MinInt), near(self, -2), near(self, -1),
			over(self, p, 0), over(shift(self, 9), p, 1), over(shift(self, 9), api.Path{N: 5}, 2), over(self, api.Path{N: 5}, 0),
		}
		if l := route.Known(self, nears, tab); !slices.Equal(l, known) {
			t.Errorf("Known(%x) = %v, want %v", self, l, known)
		}
		for _, d := range []api.ID{self, shift(self, 1), shift(self, 4), shift(self, -1), shift(self, -900)} {
			if c := route.Choose(d, self, nears, tab); c != itself(self) {
				t.Errorf("%x chooses %v for %x", self, c, d)
			}
		}
	}
}

// P13.1, P13.2: neighbours with the node's own identity and its -1, at any place, as often as may be, with and without entries: the node itself stands first, so it is chosen, not a Near one.
func TestNearWithoutPlace(t *testing.T) {
	self := id(5)
	own := []api.Near{{N: -1, ID: self}, {N: 3, ID: self}, {N: -2, ID: self}, {N: 2, ID: id(-40)}}
	for _, tab := range []*table.Table{nil, table.New(9), tableOf(t, fewEntries()[4])} {
		lists(own, 3, func(nears []api.Near) {
			for _, d := range []api.ID{self, id(4), id(7)} {
				if c := route.Choose(d, self, nears, tab); c != itself(self) {
					t.Fatalf("Choose(%x, %x, %v) = %v", d, self, nears, c)
				}
			}
		})
	}
}

// P13.1: entries whose Na or Nb is -1: that end is left out, the other one told; of others both, A first.
func TestEndsOfEntries(t *testing.T) {
	a, b, self := id(7), id(8), id(6)
	for na := -1; na < api.MaxNodes; na++ {
		for nb := -1; nb < api.MaxNodes; nb++ {
			if na == nb {
				continue
			}
			p := api.Path{Who: id(5), N: int64(10*na + nb)}
			want := []route.Choice{itself(self)}
			if na >= 0 {
				want = append(want, over(a, p, na))
			}
			if nb >= 0 {
				want = append(want, over(b, p, nb))
			}
			l := route.Known(self, nil, tableOf(t, api.Entry{P: p, A: a, B: b, Na: na, Nb: nb}))
			if !slices.Equal(l, want) {
				t.Errorf("Na %d, Nb %d: Known = %v, want %v", na, nb, l, want)
			}
		}
	}
}

// P13.1: Known, written out: the node, its neighbours as they stand, doubles too, then paths by their keys, whatever order they came in; R5: no field but those that are named.
func TestKnownInOrder(t *testing.T) {
	first, second, third := api.Path{Who: id(1), N: -4}, api.Path{Who: id(1), N: 2}, api.Path{Who: api.ID{1}, N: -9}
	tab := tableOf(t,
		api.Entry{P: third, A: id(30), B: id(31), Na: 0, Nb: -1},
		api.Entry{P: first, A: id(10), B: id(11), Na: 3, Nb: 2},
		api.Entry{P: second, A: id(20), B: id(21), Na: -1, Nb: 5})
	nears := []api.Near{{N: 4, ID: id(77)}, {N: 2, ID: id(70)}, {N: 4, ID: id(77)}, {N: -1, ID: id(5)}}
	want := []route.Choice{
		{ID: id(5), N: -1},
		{ID: id(77), Near: true, N: 4}, {ID: id(70), Near: true, N: 2}, {ID: id(77), Near: true, N: 4}, {ID: id(5), Near: true, N: -1},
		{ID: id(10), P: first, N: 3}, {ID: id(11), P: first, N: 2}, {ID: id(21), P: second, N: 5}, {ID: id(30), P: third, N: 0},
	}
	for range 20 {
		if l := route.Known(id(5), nears, tab); !slices.Equal(l, want) {
			t.Fatalf("Known = %v, want %v", l, want)
		}
	}
}

// P13.1: the first one than which none is before, wherever it stands among neighbours, and with as good ones behind it.
func TestFirstOfSeveral(t *testing.T) {
	const many = 9
	for at := range many {
		for again := at; again < many; again++ {
			var nears []api.Near
			for i := range many {
				nears = append(nears, api.Near{N: i, ID: id(int64(100 + i))})
			}
			nears[at], nears[again] = api.Near{N: 1, ID: id(50)}, api.Near{N: 1, ID: id(50)}
			if c := route.Choose(id(51), id(0), nears, nil); c != near(id(50), 1) {
				t.Errorf("at %d and %d: %v", at, again, c)
			}
			looks(t, someIDs(), id(0), nears, nil)
		}
	}
}

// lists goes over all lists of at most so many of some things, each any number of times.
func lists[T any](of []T, most int, each func(l []T)) {
	var grow func(l []T)
	grow = func(l []T) {
		each(l)
		if len(l) == most {
			return
		}
		for _, x := range of {
			grow(append(slices.Clone(l), x))
		}
	}
	grow(nil)
}

// unlike tells whether no two entries have one key.
func unlike(l []api.Entry) bool {
	for i, x := range l {
		if slices.ContainsFunc(l[:i], func(y api.Entry) bool { return x.P == y.P }) {
			return false
		}
	}
	return true
}

// fewNears have the node's own identity (5), a path's end's (9) and others, with numbers that are none too.
func fewNears() []api.Near {
	return []api.Near{{N: 1, ID: id(9)}, {N: 0, ID: id(9)}, {N: 0, ID: id(5)}, {N: -1, ID: id(5)}, {N: -1, ID: id(9)}, {N: -2, ID: id(1)}, {N: 7, ID: id(-3)}}
}

// fewEntries have keys that differ in Who alone and in N alone, and -1 at either side.
func fewEntries() []api.Entry {
	return []api.Entry{
		{P: api.Path{Who: id(5), N: 1}, A: id(5), B: id(9), Na: -1, Nb: 2},
		{P: api.Path{Who: id(5), N: 2}, A: id(5), B: id(9), Na: -1, Nb: 1},
		{P: api.Path{Who: id(9), N: 1}, A: id(9), B: id(5), Na: 0, Nb: -1},
		{P: api.Path{Who: id(1), N: 1}, A: id(1), B: id(9), Na: 3, Nb: 4},
		{P: api.Path{Who: id(1), N: 2}, A: id(5), B: id(1), Na: 5, Nb: 0},
	}
}

// fewDs are identities of somebody, between two, and nobody's.
func fewDs() []api.ID {
	return []api.ID{id(5), id(9), id(7), id(8), id(6), id(1), id(0), id(-1), id(-3), opposite(id(5)), opposite(id(7))}
}

// P13.1: all short lists of neighbours with all short tables.
func TestShortOnes(t *testing.T) {
	for most := range 3 {
		lists(fewNears(), most, func(nears []api.Near) {
			lists(fewEntries(), 2, func(entries []api.Entry) {
				if unlike(entries) {
					looks(t, fewDs(), id(5), nears, entries)
				}
			})
		})
	}
	lists(fewNears(), 4, func(nears []api.Near) { looks(t, fewDs()[:4], id(5), nears, nil) })
	lists(fewEntries(), 5, func(entries []api.Entry) {
		if unlike(entries) {
			looks(t, fewDs(), id(5), fewNears()[:1], entries)
		}
	})
}

// drawer draws worlds around one node, the same way in each run; its identities are out of a few, or any.
type drawer struct {
	*rand.Rand
	ids []api.ID
}

func newDrawer(seed int64, many int) drawer {
	r := drawer{Rand: rand.New(rand.NewSource(seed))}
	for range many {
		var a api.ID
		r.Read(a[:])
		r.ids = append(r.ids, a, shift(a, int64(r.Intn(9)-4)), opposite(a))
	}
	return r
}

func (r drawer) id() api.ID { return r.ids[r.Intn(len(r.ids))] }

func (r drawer) nears(many int) []api.Near {
	var l []api.Near
	for range many {
		n := r.Intn(8) - 2
		if r.Intn(9) == 0 {
			n = numbers()[r.Intn(len(numbers()))]
		}
		l = append(l, api.Near{N: n, ID: r.id()})
	}
	return l
}

func (r drawer) entries(many int) []api.Entry {
	var l []api.Entry
	for len(l) < many {
		p := api.Path{Who: r.id(), N: int64(r.Intn(200) - 100)}
		x := api.Entry{P: p, A: r.id(), B: r.id(), Na: r.Intn(7) - 1, Nb: r.Intn(7) - 1}
		if table.Right(x) && unlike(append(slices.Clone(l), x)) {
			l = append(l, x)
		}
	}
	return l
}

// ds are some of those that are known, some beside them, and one that is anybody's.
func (r drawer) ds() []api.ID {
	var a api.ID
	r.Read(a[:])
	l := []api.ID{a}
	for range 5 {
		l = append(l, r.id(), shift(r.id(), int64(r.Intn(7)-3)))
	}
	return l
}

// P13.1: long ones, drawn: up to as many entries as a table takes, and far more neighbours than there are places.
func TestLongOnes(t *testing.T) {
	for seed, many := range []int{1, 2, 5, 40, 400} {
		r := newDrawer(int64(130+seed), many)
		for _, nears := range []int{0, 1, 5, 60} {
			for _, entries := range []int{0, 1, 2, 20, 127, 128} {
				for range 3 {
					looks(t, r.ds(), r.id(), r.nears(nears), r.entries(entries))
				}
			}
		}
	}
}

// P13.1: a table with none, one and MaxPaths entries; the one that counts is found at each place.
func TestTablesByLength(t *testing.T) {
	self := id(0)
	if c := route.Choose(id(500), self, nil, table.New(0)); c != itself(self) {
		t.Error("without entries:", c)
	}
	for _, many := range []int{1, 2, api.MaxPaths} {
		var entries []api.Entry
		for i := range many {
			entries = append(entries, api.Entry{P: api.Path{N: int64(i)}, A: self, B: id(int64(1000 + 10*i)), Na: -1, Nb: i % 6})
		}
		tab := tableOf(t, entries...)
		for i, x := range entries {
			for _, d := range []int64{1000, 1004, 996} {
				if c := route.Choose(id(d+10*int64(i)), self, nil, tab); c != over(x.B, x.P, x.Nb) {
					t.Errorf("of %d, number %d: %v", many, i, c)
				}
			}
		}
	}
}

// holds holds P13.2 by what Known itself tells.
func holds(t *testing.T, d, self api.ID, nears []api.Near, tab *table.Table) {
	t.Helper()
	c := route.Choose(d, self, nears, tab)
	known := route.Known(self, nears, tab)
	if !slices.Contains(known, c) {
		t.Fatalf("for %x: %v isn't known", d, c)
	}
	for _, x := range known {
		if toldNearer(d, x.ID, c.ID) {
			t.Fatalf("for %x: %v is nearer than %v", d, x, c)
		}
	}
	if c == itself(self) {
		return
	}
	if !toldNearer(d, c.ID, self) || c.ID == self {
		t.Fatalf("for %x: %v isn't nearer than %x", d, c, self)
	}
}

// P13.2: of all short ones and of drawn ones.
func TestNearestIsChosen(t *testing.T) {
	lists(fewNears(), 2, func(nears []api.Near) {
		lists(fewEntries(), 2, func(entries []api.Entry) {
			if !unlike(entries) {
				return
			}
			for _, d := range fewDs() {
				holds(t, d, id(5), nears, tableOf(t, entries...))
			}
		})
	})
	for seed, many := range []int{1, 3, 10, 100} {
		r := newDrawer(int64(1320+seed), many)
		for range 200 {
			self, nears, tab := r.id(), r.nears(r.Intn(8)), tableOf(t, r.entries(r.Intn(30))...)
			for _, d := range r.ds() {
				holds(t, d, self, nears, tab)
			}
			holds(t, self, self, nears, tab)
		}
	}
}

// P13.2: where each neighbour has a place, -1 is told of the node itself alone; all others that are chosen are nearer.
func TestItselfOrNearer(t *testing.T) {
	r := newDrawer(1329, 4)
	for range 500 {
		self, nears, tab := r.id(), r.nears(r.Intn(8)), tableOf(t, r.entries(r.Intn(30))...)
		for i := range nears {
			nears[i].N = r.Intn(api.MaxNodes)
		}
		for _, d := range append(r.ds(), self) {
			if c := route.Choose(d, self, nears, tab); c != itself(self) && (c.N == -1 || !toldNearer(d, c.ID, self)) {
				t.Fatalf("%x chooses %v for %x", self, c, d)
			}
		}
	}
}

// P13.2: whoever gets more neighbours and entries never chooses one that is farther away.
func TestMoreIsNeverFarther(t *testing.T) {
	for seed, many := range []int{2, 10, 100} {
		r := newDrawer(int64(1330+seed), many)
		for range 40 {
			self, nears, entries := r.id(), r.nears(12), r.entries(24)
			d, tab := r.ds()[r.Intn(11)], table.New(api.MaxPaths)
			last := route.Choose(d, self, nil, tab)
			for i, x := range entries {
				tab.Add(x)
				c := route.Choose(d, self, nears[:i/2], tab)
				if toldBefore(d, last, c) || toldNearer(d, last.ID, c.ID) {
					t.Fatalf("for %x: %v, then %v", d, last, c)
				}
				last = c
			}
		}
	}
}

// P13.1: what is taken out of a table again is not known any more.
func TestTableThatChanges(t *testing.T) {
	r := newDrawer(5, 6)
	self, nears, entries := r.id(), r.nears(3), r.entries(40)
	tab := tableOf(t, entries...)
	for len(entries) > 0 {
		at := r.Intn(len(entries))
		tab.Remove(entries[at].P)
		entries = slices.Delete(entries, at, at+1)
		known := toldKnown(self, nears, entries)
		if l := route.Known(self, nears, tab); !slices.Equal(l, known) {
			t.Fatalf("Known = %v, want %v", l, known)
		}
		for _, d := range r.ds() {
			if c, want := route.Choose(d, self, nears, tab), toldChoose(d, known); c != want {
				t.Fatalf("Choose(%x) = %v, want %v", d, c, want)
			}
		}
	}
}

// R1, R4: a nil table is one without entries, and a nil list of neighbours an empty one.
func TestNilAndEmpty(t *testing.T) {
	for _, self := range someIDs() {
		for _, d := range someIDs() {
			for _, tab := range []*table.Table{nil, table.New(0), table.New(9), table.New(-1)} {
				for _, nears := range [][]api.Near{nil, {}, make([]api.Near, 0, 5)} {
					if c := route.Choose(d, self, nears, tab); c != itself(self) {
						t.Errorf("%x chooses %v for %x", self, c, d)
					}
					if l := route.Known(self, nears, tab); !slices.Equal(l, []route.Choice{itself(self)}) {
						t.Errorf("%x knows %v", self, l)
					}
				}
				for _, n := range numbers() {
					one := []api.Near{{N: n, ID: d}}
					want := itself(self)
					if d != self {
						want = near(d, n)
					}
					if c := route.Choose(d, self, one, tab); c != want {
						t.Errorf("%x with the neighbour %v chooses %v for %x", self, one, c, d)
					}
				}
			}
		}
	}
}

// R1: neighbours with the greatest and the least numbers, and the same one many times, are neighbours like any other.
func TestNumbersOfNeighbours(t *testing.T) {
	lists(numbers(), 3, func(l []int) {
		var nears []api.Near
		for _, n := range l {
			nears = append(nears, api.Near{N: n, ID: id(9)})
		}
		looks(t, []api.ID{id(9), id(7), id(5)}, id(5), nears, fewEntries()[:1])
		if c := route.Choose(id(9), id(5), nears, nil); len(l) > 0 && !slices.Contains(l, -1) && c != near(id(9), slices.Min(l)) {
			t.Fatalf("of %v: %v", l, c)
		}
	})
	nears := slices.Repeat([]api.Near{{N: 3, ID: id(9)}}, 10000)
	if c := route.Choose(id(9), id(5), nears, nil); c != near(id(9), 3) {
		t.Error("the same many times:", c)
	}
	if l := route.Known(id(5), nears, nil); len(l) != 10001 || l[10000] != near(id(9), 3) {
		t.Error("the same many times:", len(l))
	}
}

// R3: what is handed in stays as it is, its spare room and the table as well.
func TestHandedInStays(t *testing.T) {
	r := newDrawer(3, 5)
	for range 100 {
		room := r.nears(12)
		nears, was := room[2:7], slices.Clone(room)
		tab := tableOf(t, r.entries(r.Intn(20))...)
		entries := tab.All()
		for _, d := range r.ds() {
			route.Choose(d, r.id(), nears, tab)
		}
		route.Known(r.id(), nears, tab)
		if !slices.Equal(room, was) {
			t.Fatalf("neighbours are %v, were %v", room, was)
		}
		if l := tab.All(); !slices.Equal(l, entries) || tab.Len() != len(entries) {
			t.Fatalf("the table has %v, had %v", l, entries)
		}
	}
}

// R3: a list that is answered is memory of its own, and stays whatever becomes of neighbours and table; whoever changes it changes nothing else.
func TestKnownIsNewMemory(t *testing.T) {
	r := newDrawer(33, 5)
	for many := range 20 {
		self, nears, entries := r.id(), r.nears(many), r.entries(many)
		tab, were := tableOf(t, entries...), slices.Clone(nears)
		first, second := route.Known(self, nears, tab), route.Known(self, nears, tab)
		want := toldKnown(self, nears, entries)
		for i := range first[:cap(first)] {
			first[:cap(first)][i] = route.Choice{ID: id(66), Near: true, N: 66}
		}
		if !slices.Equal(second, want) || !slices.Equal(route.Known(self, nears, tab), want) || !slices.Equal(nears, were) {
			t.Fatalf("a list of %d was changed, and with it another", many)
		}
		for i := range nears {
			nears[i] = api.Near{N: 77, ID: id(77)}
		}
		for _, x := range entries {
			tab.Remove(x.P)
		}
		if !slices.Equal(second, want) {
			t.Fatalf("a list of %d was changed by what became of the others", many)
		}
	}
}

// R2: the order in which entries came into the table, and how often it is asked, is not to be seen; the order of neighbours not in what is chosen.
func TestOrderOfComing(t *testing.T) {
	r := newDrawer(2, 4)
	self, nears, entries := r.id(), r.nears(9), r.entries(api.MaxPaths)
	ds := r.ds()
	known := toldKnown(self, nears, entries)
	for range 20 {
		r.Shuffle(len(entries), func(i, j int) { entries[i], entries[j] = entries[j], entries[i] })
		tab := tableOf(t, entries...)
		if l := route.Known(self, nears, tab); !slices.Equal(l, known) {
			t.Fatalf("Known = %v, want %v", l, known)
		}
		turned := slices.Clone(nears)
		r.Shuffle(len(turned), func(i, j int) { turned[i], turned[j] = turned[j], turned[i] })
		for _, d := range ds {
			want := toldChoose(d, known)
			if c := route.Choose(d, self, nears, tab); c != want {
				t.Fatalf("Choose(%x) = %v, want %v", d, c, want)
			}
			if c := route.Choose(d, self, turned, tab); c != want {
				t.Fatalf("Choose(%x) = %v, want %v, with its neighbours turned", d, c, want)
			}
		}
	}
}

// The second telling's numbers, held against what can be seen: they go on clockwise, and order keys as bytes do.
func TestSecondTelling(t *testing.T) {
	for _, a := range someIDs() {
		for _, n := range []int64{0, 1, 5, 1 << 40} {
			if got := clockwise(a, shift(a, n)); !slices.Equal(got, []uint64{0, uint64(n)}) {
				t.Errorf("from %x on by %d: %v", a, n, got)
			}
			if shift(shift(a, n), -n) != a {
				t.Errorf("from %x on and back by %d", a, n)
			}
		}
		for _, b := range someIDs() {
			by := slices.Compare(keyRank(api.Path{Who: a}), keyRank(api.Path{Who: b}))
			if by != bytes.Compare(a[:], b[:]) {
				t.Errorf("%x and %x: %d", a, b, by)
			}
		}
	}
}
