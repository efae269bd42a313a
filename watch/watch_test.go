package watch_test

import (
	"math"
	"slices"
	"testing"

	"annulet/api"
	"annulet/watch"
	"annulet/world"
)

// strange are places that are none.
var strange = []int{math.MinInt, -2, -1, 6, 7, 1 << 20, math.MaxInt}

// P22.1: two are paired if both run, both ends are there and up, and each one's number is the one that the other knows.
func TestPaired(t *testing.T) {
	breaks := map[string]func(h *hand){
		"a that doesn't run":     func(h *hand) { h.vs[0].Up = false },
		"b that doesn't run":     func(h *hand) { h.vs[1].Up = false },
		"a's Ends too short":     func(h *hand) { h.vs[0].Ends = h.vs[0].Ends[:1] },
		"b's Ends none":          func(h *hand) { h.vs[1].Ends = nil },
		"a's end not up":         func(h *hand) { h.end(0, 1).Up = false },
		"b's end not up":         func(h *hand) { h.end(1, 0).Up = false },
		"a's Mine.N another":     func(h *hand) { h.end(0, 1).Mine.N++ },
		"a's Mine.Inc another":   func(h *hand) { h.end(0, 1).Mine.Inc++ },
		"a's Peer zero":          func(h *hand) { h.end(0, 1).Peer = api.Num{} },
		"b's Mine.N another":     func(h *hand) { h.end(1, 0).Mine.N-- },
		"b's Peer.Inc another":   func(h *hand) { h.end(1, 0).Peer.Inc = -1 },
		"both ends the same one": func(h *hand) { *h.end(1, 0) = *h.end(0, 1) },
	}
	for what, breaks := range breaks {
		h := row(2)
		is(t, "Paired(0, 1)", watch.Paired(h.vs, 0, 1), true)
		is(t, "Paired(1, 0)", watch.Paired(h.vs, 1, 0), true)
		breaks(h)
		is(t, what+": Paired(0, 1)", watch.Paired(h.vs, 0, 1), false)
		is(t, what+": Paired(1, 0)", watch.Paired(h.vs, 1, 0), false)
	}
	// What doesn't count.
	h := row(2)
	h.end(0, 1).Open, h.end(1, 0).Open = false, false
	h.end(0, 1).ID, h.end(0, 1).Base, h.end(0, 1).Got = spot(0x99), -5, 9
	h.vs[1].ID, h.vs[1].Inc = spot(0x10), 0
	h.link(0, 1, false)
	h.vs[0].Ends = h.vs[0].Ends[:2:2]
	is(t, "Paired of ends that aren't open", watch.Paired(h.vs, 0, 1), true)
	// Two that are up and know nothing of each other, with numbers that are zero: as the words say.
	*h.end(0, 1), *h.end(1, 0) = h.vs[0].Ends[0], h.vs[0].Ends[0]
	is(t, "Paired of zero ends", watch.Paired(h.vs, 0, 1), false)
	h.end(0, 1).Up, h.end(1, 0).Up = true, true
	is(t, "Paired of ends without numbers", watch.Paired(h.vs, 0, 1), true)
}

// P22.1: a node is paired with itself just if its end to itself says so.
func TestPairedWithItself(t *testing.T) {
	h := row(2)
	is(t, "Paired(0, 0)", watch.Paired(h.vs, 0, 0), false)
	h.end(0, 0).Up, h.end(0, 0).Mine, h.end(0, 0).Peer = true, api.Num{Inc: 3, N: 1}, api.Num{Inc: 3, N: 2}
	is(t, "Paired(0, 0) with numbers that aren't one", watch.Paired(h.vs, 0, 0), false)
	h.end(0, 0).Peer.N = 1
	is(t, "Paired(0, 0) with its own number", watch.Paired(h.vs, 0, 0), true)
}

// P22.1: all ends of two nodes, with numbers out of few.
func TestPairedWhole(t *testing.T) {
	nums := []api.Num{{}, {Inc: 1}, {N: 1}, {Inc: 1, N: 1}}
	paired := 0
	for bits := range 1 << 10 {
		bit := func(i int) bool { return bits>>i&1 == 1 }
		num := func(i int) api.Num { return nums[bits>>i&3] }
		for _, shorter := range []int{0, 1, 2, 3} {
			h := nodes(2)
			h.vs[1].Up = bit(0)
			h.end(0, 1).Up, h.end(1, 0).Up = true, bit(1)
			h.end(0, 1).Mine, h.end(0, 1).Peer, h.end(1, 0).Mine, h.end(1, 0).Peer = num(2), num(4), num(6), num(8)
			h.vs[0].Ends = h.vs[0].Ends[:2-shorter&1]
			h.vs[1].Ends = h.vs[1].Ends[:1-shorter>>1]
			x := teller{h.vs, nil}
			for _, pair := range [][2]int{{0, 1}, {1, 0}, {0, 0}, {1, 1}, {1, 2}} {
				want := x.paired(pair[0], pair[1])
				if watch.Paired(h.vs, pair[0], pair[1]) != want {
					t.Fatalf("Paired(%+v, %v) isn't %v", h.vs, pair, want)
				}
				if want {
					paired++
				}
			}
		}
	}
	if paired != 2*16 {
		t.Errorf("%d pairs are paired", paired)
	}
}

// P22.1: a text that waits is owed if its number is above what came at the other end, and it is a Setup or a Drop of the path.
func TestOwes(t *testing.T) {
	p := key(7)
	for _, tears := range [][]byte{setup(p), drop(p)} {
		for _, c := range []struct {
			base  int64
			ahead int // texts that wait ahead of it
			got   int64
			want  bool
		}{
			{1, 0, 0, true}, {1, 0, 1, false}, {1, 0, 2, false}, {1, 2, 2, true}, {1, 2, 3, false}, {9, 0, 8, true}, {9, 0, 9, false}, {9, 3, 11, true}, {9, 3, 12, false},
			{0, 0, 0, false}, {0, 1, 0, true}, {-3, 2, -1, false}, {-3, 3, -1, true}, {5, 0, -1, true},
			{math.MaxInt64, 0, math.MaxInt64 - 1, true}, {math.MaxInt64, 0, math.MaxInt64, false}, {math.MaxInt64, 1, math.MaxInt64, true}, {math.MaxInt64, 3, 0, true}, {math.MaxInt64, 3, -1, true},
			{math.MinInt64, 3, 0, false}, {math.MinInt64, 0, math.MaxInt64, false}, {math.MinInt64, 3, math.MaxInt64, false}, {math.MinInt64, 0, math.MinInt64, false}, {math.MinInt64, 1, math.MinInt64, true}, {math.MaxInt64, 0, math.MinInt64, true},
		} {
			h := row(2)
			e := h.end(0, 1)
			for _, other := range others(p)[:c.ahead] {
				e.Out = append(e.Out, other)
			}
			e.Base, e.Out, h.end(1, 0).Got = c.base, append(e.Out, tears), c.got
			if got := watch.Owes(h.vs, 0, 1, p); got != c.want {
				t.Errorf("Owes, Base %d, %d ahead of it, Got %d: %v", c.base, c.ahead, c.got, got)
			}
			is(t, "Owes the other way", watch.Owes(h.vs, 1, 0, p), false)
			is(t, "Owes of another number", watch.Owes(h.vs, 0, 1, key(8)), false)
			is(t, "Owes of another's", watch.Owes(h.vs, 0, 1, api.Path{Who: spot(0x11), N: 7}), false)
		}
	}
}

// P22.1: what is no Setup or Drop of the path isn't owed, wherever it stands.
func TestOwesOthers(t *testing.T) {
	p := key(7)
	h := row(2)
	for _, other := range others(p) {
		h.waits(0, 1, 3, other)
		if watch.Owes(h.vs, 0, 1, p) {
			t.Errorf("%x is owed", other)
		}
	}
	h.waits(0, 1, 3, others(p)...)
	is(t, "Owes of all others", watch.Owes(h.vs, 0, 1, p), false)
	is(t, "Owes of another path", watch.Owes(h.vs, 0, 1, key(8)), true)
	for _, tears := range [][]byte{setup(p), drop(p)} {
		h.waits(0, 1, 3, slices.Insert(others(p), len(others(p))/2, tears)...)
		is(t, "Owes among others", watch.Owes(h.vs, 0, 1, p), true)
	}
	// The path without a maker, and the number 0.
	is(t, "Owes of the zero path", watch.Owes(h.waits(0, 1, 0, drop(p)).vs, 0, 1, api.Path{}), false)
	is(t, "Owes of the zero path that is owed", watch.Owes(h.waits(0, 1, 0, drop(api.Path{})).vs, 0, 1, api.Path{}), true)
	is(t, "Owes of no frame for the zero path", watch.Owes(h.waits(0, 1, 0, nil, []byte{}, []byte{1, 5}).vs, 0, 1, api.Path{}), false)
}

// P22.1: nothing is owed between two that aren't paired.
func TestOwesOfApart(t *testing.T) {
	p := key(7)
	h := row(2).waits(0, 1, 3, drop(p))
	is(t, "Owes", watch.Owes(h.vs, 0, 1, p), true)
	for _, n := range strange {
		is(t, "Owes of a strange place", watch.Owes(h.vs, n, 1, p), false)
		is(t, "Owes to a strange place", watch.Owes(h.vs, 0, n, p), false)
	}
	h.end(1, 0).Peer.N++
	is(t, "Owes of an earlier session", watch.Owes(h.vs, 0, 1, p), false)
	h.end(1, 0).Peer.N--
	h.vs[1].Up = false
	is(t, "Owes to one that doesn't run", watch.Owes(h.vs, 0, 1, p), false)
	h.vs[1].Up = true
	h.end(0, 1).Open = false
	is(t, "Owes of an end that isn't open", watch.Owes(h.vs, 0, 1, p), true)
}

// P22.1: a hop stands by the entry of the place that it leads to, if that one leads back on its other side.
func TestStandsByEntry(t *testing.T) {
	p := key(7)
	for _, c := range []struct {
		back       api.Entry
		toA, fromA bool // does the hop towards A stand, and that towards B
	}{
		{entry(p, -1, 0), true, false},
		{entry(p, 0, -1), false, true},
		{entry(p, 2, 0), true, false},
		{entry(p, 0, 2), false, true},
		{entry(p, 0, 0), true, true},
		{entry(p, -1, -1), false, false},
		{entry(p, 2, 1), false, false},
		{entry(key(8), 0, 0), false, false},
		{entry(api.Path{Who: spot(0x11), N: 7}, 0, 0), false, false},
		{api.Entry{P: p, A: spot(1), B: spot(1), Na: 0, Nb: 0}, true, true},
	} {
		h := row(2).keeps(1, entry(key(6), 0, 0), c.back, entry(key(8), 0, 0))
		if got := watch.Stands(h.vs, 0, entry(p, 1, 5), true); got != c.toA {
			t.Errorf("%+v answers the hop towards A: %v", c.back, got)
		}
		if got := watch.Stands(h.vs, 0, entry(p, 5, 1), false); got != c.fromA {
			t.Errorf("%+v answers the hop towards B: %v", c.back, got)
		}
	}
}

// P22.1: of two entries of one path the first counts, for good and for bad.
func TestStandsByFirst(t *testing.T) {
	p := key(7)
	right, wrong := entry(p, -1, 0), entry(p, -1, 2)
	is(t, "Stands by the first one", watch.Stands(row(2).keeps(1, right, wrong).vs, 0, entry(p, 1, -1), true), true)
	is(t, "Stands by the second one", watch.Stands(row(2).keeps(1, wrong, right).vs, 0, entry(p, 1, -1), true), false)
	right, wrong = entry(p, 0, -1), entry(p, 2, -1)
	is(t, "Stands by the first one, towards B", watch.Stands(row(2).keeps(1, right, wrong).vs, 0, entry(p, -1, 1), false), true)
	is(t, "Stands by the second one, towards B", watch.Stands(row(2).keeps(1, wrong, right).vs, 0, entry(p, -1, 1), false), false)
}

// P22.1: a hop stands by a Setup or a Drop that waits at either end, and didn't come.
func TestStandsByText(t *testing.T) {
	p := key(7)
	for _, tears := range [][]byte{setup(p), drop(p)} {
		for _, ends := range [][2]int{{0, 1}, {1, 0}} {
			h := row(3).waits(ends[0], ends[1], 4, tears)
			for _, towardA := range []bool{true, false} {
				is(t, "Stands by a text", watch.Stands(h.vs, 0, entry(p, 1, 1), towardA), true)
				is(t, "Stands of another path", watch.Stands(h.vs, 0, entry(key(8), 1, 1), towardA), false)
				is(t, "Stands by a text for another place", watch.Stands(h.vs, 1, entry(p, 2, 2), towardA), false)
			}
			h.end(ends[1], ends[0]).Got++
			is(t, "Stands by a text that came", watch.Stands(h.vs, 0, entry(p, 1, 1), true), false)
		}
	}
	h := row(2).waits(0, 1, 4, others(p)...).waits(1, 0, 4, others(p)...)
	is(t, "Stands by other texts", watch.Stands(h.vs, 0, entry(p, 1, 1), true), false)
}

// P22.1: a hop stands where it leads nowhere, or to a place whose session is no more.
func TestStandsApart(t *testing.T) {
	p := key(7)
	h := row(3)
	for _, n := range append([]int{0, 2}, strange...) {
		is(t, "Stands towards A", watch.Stands(h.vs, 0, entry(p, n, 1), true), true)
		is(t, "Stands towards B", watch.Stands(h.vs, 0, entry(p, 1, n), false), true)
		is(t, "Stands towards A, over the other side", watch.Stands(h.vs, 0, entry(p, 1, n), true), false)
		is(t, "Stands towards B, over the other side", watch.Stands(h.vs, 0, entry(p, n, 1), false), false)
		if n != 0 && n != 2 {
			is(t, "Stands at a place that is none", watch.Stands(h.vs, n, entry(p, 1, 1), true), true)
		}
	}
	h.vs[1].Up = false
	is(t, "Stands towards one that doesn't run", watch.Stands(h.vs, 0, entry(p, 1, 1), true), true)
	is(t, "Stands at one that doesn't run", watch.Stands(h.vs, 1, entry(p, 0, 0), true), true)
	h.vs[1].Up = true
	h.end(0, 1).Mine.N++
	is(t, "Stands of a session that died", watch.Stands(h.vs, 0, entry(p, 1, 1), true), true)
}

// P22.1: an entry that points at its own place stands, as nobody is paired with himself, unless he is.
func TestStandsAtItself(t *testing.T) {
	p := key(7)
	h := row(2).keeps(0, entry(p, 0, 0))
	is(t, "Stands of an entry that points at itself", watch.Traced(h.vs), true)
	h.end(0, 0).Up = true
	is(t, "Stands of it, answered by itself", watch.Traced(h.vs), true)
	h.vs[0].Entries[0].Na = -1
	is(t, "Stands of it towards A", watch.Stands(h.vs, 0, h.vs[0].Entries[0], true), true)
	is(t, "Stands of it towards B", watch.Stands(h.vs, 0, h.vs[0].Entries[0], false), false)
	is(t, "Traced of it", watch.Traced(h.vs), false)
}

// P22.1: a world is traced if each hop of each entry of each place stands.
func TestTraced(t *testing.T) {
	p, q := key(1), key(2)
	whole := func() *hand { return row(4).lay(p, 0, 1, 2, 3).lay(q, 3, 2, 1) }
	is(t, "Traced of whole paths", watch.Traced(whole().vs), true)
	for a := range 4 {
		for i := range whole().vs[a].Entries {
			h := whole()
			gone := h.vs[a].Entries[i].P
			h.vs[a].Entries = slices.Delete(h.vs[a].Entries, i, i+1)
			is(t, "Traced without an entry", watch.Traced(h.vs), false)
			// A Drop for each side says that it is gone.
			for _, b := range []int{a - 1, a + 1} {
				if b >= 0 && b < 4 && slices.ContainsFunc(h.vs[b].Entries, func(x api.Entry) bool { return x.P == gone }) {
					is(t, "Traced, before both sides are told", watch.Traced(h.vs), false)
					h.waits(a, b, 0, drop(gone))
				}
			}
			is(t, "Traced with Drops under way", watch.Traced(h.vs), true)
		}
	}
	// A Setup that is under way, on a path of which just the beginning stands.
	h := row(4).lay(p, 0, 1, 2, 3)
	h.vs[2].Entries, h.vs[3].Entries = nil, nil
	is(t, "Traced of half a path", watch.Traced(h.vs), false)
	h.waits(1, 2, 8, setup(q), setup(p))
	is(t, "Traced with a Setup under way", watch.Traced(h.vs), true)
	h.end(2, 1).Got = 10
	is(t, "Traced with a Setup that came", watch.Traced(h.vs), false)
	h.end(2, 1).Mine.N = 99
	is(t, "Traced where the session died", watch.Traced(h.vs), true)
	// Just one hop that doesn't stand, of the last place, on either side.
	for _, x := range []api.Entry{entry(key(3), 2, -1), entry(key(3), -1, 2)} {
		is(t, "Traced with one hop that doesn't stand", watch.Traced(whole().keeps(3, x).vs), false)
	}
	// What doesn't run is paired with nobody.
	h = whole().keeps(3, entry(key(3), 2, -1))
	h.vs[3].Up = false
	h.vs[2].Entries = nil
	is(t, "Traced, where what leads wrong doesn't run", watch.Traced(h.vs), false)
	h.vs[1].Entries = nil
	h.vs[0].Entries = nil
	is(t, "Traced, where all else is gone", watch.Traced(h.vs), true)
}

// P22.1: no views, and views of nothing.
func TestNothing(t *testing.T) {
	never := func(a, b int) bool { t.Fatalf("linked(%d, %d) is asked for", a, b); return false }
	for _, vs := range [][]world.View{nil, {}, {{}}, {{}, {}, {}}, {{ID: spot(1)}, {ID: spot(1)}}} {
		is(t, "Traced of nothing", watch.Traced(vs), true)
		is(t, "Settled of nothing", watch.Settled(vs, never), true)
		for _, half := range []int{math.MinInt, 0, 1, math.MaxInt} {
			is(t, "Ringed of nothing", watch.Ringed(vs, never, half), true)
		}
		for _, a := range append([]int{0, 1, 2}, strange...) {
			if l := watch.Reach(vs, never, a); len(l) != 0 {
				t.Errorf("Reach of nothing is %v", l)
			}
			for _, b := range append([]int{0, 1, 2}, strange...) {
				is(t, "Paired of nothing", watch.Paired(vs, a, b), false)
				is(t, "Owes of nothing", watch.Owes(vs, a, b, api.Path{}), false)
				is(t, "Stands of nothing", watch.Stands(vs, a, api.Entry{Na: b, Nb: b}, true), true)
			}
		}
	}
	if l := watch.Friends(world.View{}); len(l) != 0 {
		t.Errorf("Friends of nothing are %v", l)
	}
}

// P22.1: one node alone is settled and ringed.
func TestAlone(t *testing.T) {
	h := nodes(1)
	is(t, "Settled alone", watch.Settled(h.vs, h.linked), true)
	is(t, "Ringed alone", watch.Ringed(h.vs, h.linked, 1), true)
	// Whether it is linked with itself doesn't count.
	h.link(0, 0, true)
	is(t, "Settled alone, linked with itself", watch.Settled(h.vs, h.linked), true)
	is(t, "Ringed alone, linked with itself", watch.Ringed(h.vs, h.linked, 1), true)
	if l := watch.Reach(h.vs, h.linked, 0); !slices.Equal(l, []int{0}) {
		t.Errorf("Reach alone is %v", l)
	}
	h.keeps(0, entry(key(1), -1, 0))
	is(t, "Settled with an entry for itself", watch.Settled(h.vs, h.linked), false)
	h.end(0, 0).Up = true
	is(t, "Settled with an entry for itself, paired with itself", watch.Settled(h.vs, h.linked), true)
	h.link(0, 0, false)
	is(t, "Settled with an entry for itself, not linked", watch.Settled(h.vs, h.linked), false)
}
