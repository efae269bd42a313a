package watch_test

import (
	"math"
	"slices"
	"testing"

	"annulet/api"
	"annulet/node"
	"annulet/watch"
	"annulet/world"
)

// P22.1: a world is settled if all that are linked and run stand in one session, open, and all that was sent came.
func TestSettledSessions(t *testing.T) {
	whole := func() *hand { return row(3).lay(key(1), 0, 1, 2) }
	h := whole()
	is(t, "Settled", watch.Settled(h.vs, h.linked), true)
	breaks := map[string]func(h *hand){
		"a's end not open":          func(h *hand) { h.end(0, 1).Open = false },
		"b's end not open":          func(h *hand) { h.end(1, 0).Open = false },
		"a's end not up":            func(h *hand) { h.end(0, 1).Up = false },
		"b's number another":        func(h *hand) { h.end(1, 0).Mine.N = 77 },
		"Ends too short":            func(h *hand) { h.vs[0].Ends, h.vs[0].Entries, h.vs[1].Entries, h.vs[2].Entries = nil, nil, nil, nil },
		"a text that didn't come":   func(h *hand) { h.waits(0, 1, 4, []byte("x")) },
		"one of two didn't come":    func(h *hand) { h.waits(2, 1, 4, nil, nil); h.end(1, 2).Got++ },
		"a link without a session":  func(h *hand) { h.link(0, 2, true) },
		"a path over a link's end":  func(h *hand) { h.link(1, 2, false) },
		"one on the way not run":    func(h *hand) { h.vs[1].Up = false },
		"the last one not run":      func(h *hand) { h.vs[2].Up = false },
		"an entry beyond all":       func(h *hand) { h.keeps(1, entry(key(2), 1<<40, -1)) },
		"an entry of a place not 0": func(h *hand) { h.keeps(0, entry(key(2), -1, 2)) },
	}
	for what, breaks := range breaks {
		h := whole()
		breaks(h)
		is(t, what+": Settled", watch.Settled(h.vs, h.linked), false)
	}
	// Texts that came, and whose end doesn't know it yet.
	h.waits(0, 1, 4, drop(key(1)), setup(key(1)))
	h.end(1, 0).Got = 6
	is(t, "Settled with texts that came", watch.Settled(h.vs, h.linked), true)
	h.end(1, 0).Got = 7
	is(t, "Settled with more that came than was sent", watch.Settled(h.vs, h.linked), true)
	h.end(1, 0).Got = 5
	is(t, "Settled with a text that didn't come", watch.Settled(h.vs, h.linked), false)
}

// P22.1: the last text's number is Base and how many less one, however few wait, and wherever Base is.
func TestSettledNumbers(t *testing.T) {
	for _, c := range []struct {
		base  int64
		texts int
		got   int64
		want  bool
	}{
		{1, 0, 0, true}, {0, 0, 0, true}, {2, 0, 1, true}, {2, 0, 0, false}, {9, 0, 8, true}, {9, 0, 7, false},
		{1, 1, 0, false}, {1, 1, 1, true}, {1, 3, 2, false}, {1, 3, 3, true}, {-4, 2, -3, true}, {-4, 2, -4, false},
		{math.MinInt64, 0, math.MinInt64, true}, {math.MinInt64, 1, math.MinInt64, true}, {math.MinInt64, 2, math.MinInt64, false}, {math.MinInt64, 2, math.MaxInt64, true},
		{math.MaxInt64, 0, math.MaxInt64 - 1, true}, {math.MaxInt64, 0, math.MaxInt64 - 2, false}, {math.MaxInt64, 1, math.MaxInt64, true}, {math.MaxInt64, 2, math.MaxInt64, false}, {math.MaxInt64, 2, math.MinInt64, false}, {math.MaxInt64, 0, math.MinInt64, false},
	} {
		h := row(2)
		h.end(1, 0).Base, h.end(1, 0).Out, h.end(0, 1).Got = c.base, make([][]byte, c.texts), c.got
		if got := watch.Settled(h.vs, h.linked); got != c.want {
			t.Errorf("Settled, Base %d, %d texts, Got %d: %v", c.base, c.texts, c.got, got)
		}
	}
}

// P22.1: what isn't linked, or doesn't run, need not be paired; but no entry may lead there.
func TestSettledApart(t *testing.T) {
	h := row(3).lay(key(1), 0, 1)
	h.link(1, 2, false)
	h.end(1, 2).Open = false
	h.waits(2, 1, 3, []byte("x"))
	is(t, "Settled with what isn't linked", watch.Settled(h.vs, h.linked), true)
	h.link(1, 2, true)
	is(t, "Settled with what is", watch.Settled(h.vs, h.linked), false)
	h.vs[2].Up = false
	is(t, "Settled with one that doesn't run", watch.Settled(h.vs, h.linked), true)
	h.keeps(2, entry(key(2), -3, math.MinInt))
	is(t, "Settled with an entry that leads nowhere", watch.Settled(h.vs, h.linked), true)
	h.keeps(2, entry(key(3), -1, 1))
	is(t, "Settled with an entry of one that doesn't run", watch.Settled(h.vs, h.linked), false)
	// On each side of an entry, and of any of its place's entries.
	for _, x := range []api.Entry{entry(key(4), 2, -1), entry(key(4), -1, 2), entry(key(4), 1, 2), entry(key(4), 0, 7)} {
		h := row(3).lay(key(1), 0, 1).keeps(0, x)
		is(t, "Settled with an entry that leads apart", watch.Settled(h.vs, h.linked), false)
		h.vs[0].Entries = append([]api.Entry{x}, h.vs[1].Entries...)
		is(t, "Settled with it as the first one", watch.Settled(h.vs, h.linked), false)
	}
	// Entries that aren't answered are none of Settled's.
	h = row(2).keeps(0, entry(key(5), 1, -1))
	is(t, "Settled with what isn't traced", watch.Settled(h.vs, h.linked) && !watch.Traced(h.vs), true)
}

// P22.1: one reaches those that run and are linked, over others that run; rising.
func TestReach(t *testing.T) {
	h := nodes(6)
	for _, pair := range [][2]int{{5, 3}, {3, 1}, {1, 4}, {0, 2}} {
		h.link(pair[0], pair[1], true)
	}
	look := func(a int, want ...int) {
		t.Helper()
		l := watch.Reach(h.vs, h.linked, a)
		if !slices.Equal(l, want) {
			t.Errorf("Reach(%d) is %v, not %v", a, l, want)
		}
		// It is new memory.
		for i := range l[:cap(l)] {
			l[:cap(l)][i] = 99
		}
		if l := watch.Reach(h.vs, h.linked, a); !slices.Equal(l, want) {
			t.Errorf("Reach(%d) is %v then, not %v", a, l, want)
		}
	}
	for _, a := range []int{1, 3, 4, 5} {
		look(a, 1, 3, 4, 5)
	}
	look(0, 0, 2)
	look(2, 0, 2)
	for _, a := range strange {
		look(a)
	}
	h.vs[3].Up = false
	look(5, 5)
	look(3)
	look(1, 1, 4)
	// Sessions don't count, nor identities.
	h.vs[3].Up = true
	h.vs[1].ID = h.vs[5].ID
	h.meet(0, 1).link(0, 1, false)
	look(4, 1, 3, 4, 5)
	h.link(4, 2, true)
	look(5, 0, 1, 2, 3, 4, 5)
	all := row(6)
	for a := range 6 {
		if l := watch.Reach(all.vs, all.linked, a); !slices.Equal(l, []int{0, 1, 2, 3, 4, 5}) {
			t.Errorf("Reach(%d) in a row is %v", a, l)
		}
	}
}

// P22.1: friends are the other ends of own entries, rising, each once, without oneself.
func TestFriends(t *testing.T) {
	self, a, b, c := spot(0x50), spot(0x10), spot(0x60), spot(0x90)
	own := func(x, y api.ID, na, nb int) api.Entry { return api.Entry{A: x, B: y, Na: na, Nb: nb} }
	for _, x := range []struct {
		l    []api.Entry
		want []api.ID
	}{
		{nil, nil},
		{[]api.Entry{own(self, b, -1, 2)}, []api.ID{b}},
		{[]api.Entry{own(b, self, 2, -1)}, []api.ID{b}},
		{[]api.Entry{own(a, b, 2, 3)}, nil},
		{[]api.Entry{own(a, b, -2, 3), own(a, b, 2, math.MinInt)}, nil},
		{[]api.Entry{own(self, c, -1, 2), own(b, self, 4, -1), own(self, a, -1, 0)}, []api.ID{a, b, c}},
		{[]api.Entry{own(self, c, -1, 2), own(c, self, 4, -1), own(self, c, -1, 0), own(a, b, 1, 2)}, []api.ID{c}},
		{[]api.Entry{own(a, b, -1, -1)}, []api.ID{b}},
		{[]api.Entry{own(a, b, -1, 1<<40), own(a, b, -9, -1)}, []api.ID{a, b}},
		{[]api.Entry{own(b, self, -1, 1), own(self, b, 1, -1)}, nil},
		{[]api.Entry{own(api.ID{}, self, 1, -1)}, []api.ID{{}}},
	} {
		// Whether it runs doesn't count.
		for _, up := range []bool{true, false} {
			v := world.View{Up: up, ID: self, Entries: x.l}
			l := watch.Friends(v)
			if !slices.Equal(l, x.want) {
				t.Errorf("Friends of %+v are %v, not %v", x.l, l, x.want)
			}
			clear(l[:cap(l)])
			if l := watch.Friends(v); !slices.Equal(l, x.want) {
				t.Errorf("Friends of %+v are %v then, not %v", x.l, l, x.want)
			}
		}
	}
}

// P22.1: a world is ringed if each that runs has one path to each that it wants of those that it reaches, and to no other.
func TestRinged(t *testing.T) {
	whole := func() *hand { return row(5).ring(1) }
	h := whole()
	is(t, "Ringed", watch.Ringed(h.vs, h.linked, 1), true)
	is(t, "Ringed by 2", watch.Ringed(h.vs, h.linked, 2), false)
	is(t, "Ringed by 0", watch.Ringed(h.vs, h.linked, 0), false)
	is(t, "Ringed by less", watch.Ringed(h.vs, h.linked, math.MinInt), false)
	is(t, "Ringed by 2 of a ring by 2", watch.Ringed(row(5).ring(2).vs, h.linked, 2), true)
	for _, half := range []int{2, 3, 4, 64, math.MaxInt} {
		is(t, "Ringed by many of a ring of all", watch.Ringed(row(5).ring(4).vs, h.linked, half), true)
	}
	// More than a world may have.
	is(t, "Ringed by 4 of a ring by 4, of ten", watch.Ringed(row(10).ring(4).vs, row(10).linked, 4), true)
	is(t, "Ringed by 3 of a ring by 4, of ten", watch.Ringed(row(10).ring(4).vs, row(10).linked, 3), false)
	for _, half := range []int{0, -1, math.MinInt} {
		is(t, "Ringed by none, of no paths", watch.Ringed(row(5).vs, h.linked, half), true)
	}
	self, first := h.vs[2], h.vs[2].Entries[0]
	other := slices.DeleteFunc(slices.Clone(self.Entries), func(x api.Entry) bool { return x.Na != -1 && x.Nb != -1 })[0]
	breaks := map[string]func(h *hand){
		"a path less":               func(h *hand) { h.vs[2].Entries = slices.Delete(h.vs[2].Entries, 0, 1) },
		"two paths to one":          func(h *hand) { h.keeps(2, other) },
		"a path to one not wanted":  func(h *hand) { h.keeps(2, api.Entry{P: key(99), A: self.ID, B: spot(0x10), Na: -1, Nb: 1}) },
		"a path to one not there":   func(h *hand) { h.keeps(2, api.Entry{P: key(99), A: self.ID, B: spot(0x35), Na: -1, Nb: 1}) },
		"a path to itself":          func(h *hand) { h.keeps(2, api.Entry{P: key(99), A: self.ID, B: self.ID, Na: -1, Nb: 1}) },
		"an identity another":       func(h *hand) { h.vs[4].ID = spot(0x51) },
		"a link less":               func(h *hand) { h.link(3, 4, false) },
		"one that doesn't run":      func(h *hand) { h.vs[4].Up = false },
		"an end not -1 but below 0": func(h *hand) { h.vs[4].Entries[0] = entry(key(1), -2, -2) },
	}
	if first.Na != -1 && first.Nb != -1 {
		breaks["a path less"] = func(h *hand) { h.vs[2].Entries = nil }
	}
	for what, breaks := range breaks {
		h := whole()
		breaks(h)
		is(t, what+": Ringed", watch.Ringed(h.vs, h.linked, 1), false)
	}
	// What goes over a node doesn't count, nor how the sessions stand, nor what one has that doesn't run.
	h = whole().keeps(2, entry(key(99), 1, 3), entry(key(98), -5, 1<<40))
	h.vs[0].Ends, h.vs[3].Ends = nil, make([]node.End, 1)
	is(t, "Ringed with what goes over", watch.Ringed(h.vs, h.linked, 1), true)
	h.vs = append(h.vs, world.View{ID: spot(0x31), Entries: []api.Entry{entry(key(97), -1, 3)}})
	is(t, "Ringed with one that doesn't run", watch.Ringed(h.vs, func(a, b int) bool { return a == 5 || b == 5 || h.linked(a, b) }, 1), true)
	h.vs[5].Up = true
	is(t, "Ringed when it runs", watch.Ringed(h.vs, func(a, b int) bool { return a == 5 || b == 5 || h.linked(a, b) }, 1), false)
}

// P22.1: each part of a world has a ring of its own.
func TestRingedParts(t *testing.T) {
	h := row(6)
	h.link(2, 3, false).ring(1)
	is(t, "Ringed of parts", watch.Ringed(h.vs, h.linked, 1), true)
	is(t, "Ringed of parts that are linked", watch.Ringed(h.vs, row(6).linked, 1), false)
	is(t, "Ringed of all that are alone", watch.Ringed(nodes(6).vs, nodes(6).linked, 2), true)
}

// P22.1: Views are those of a world's nodes, from 0 on.
func TestViews(t *testing.T) {
	w := begin(t, config(1, 9, 20, 0x10, 0x90, 0x50))
	w.must(boot(0), boot(1), link(0, 1), calm(3))
	for nodes, want := range map[int]int{math.MinInt: 0, -1: 0, 0: 0, 1: 1, 2: 2, 3: 3, 4: 4, 6: 6, 7: 6, 1 << 30: 6, math.MaxInt: 6} {
		vs, none := watch.Views(w.World, nodes), watch.Views(nil, nodes)
		if len(vs) != want || len(none) != want {
			t.Fatalf("Views(%d) are %d, and %d of no world", nodes, len(vs), len(none))
		}
		for a, v := range vs {
			if !same(v, w.View(a)) {
				t.Errorf("the View %d is %+v", a, v)
			}
			if !same(none[a], world.View{}) {
				t.Errorf("no world's View %d is %+v", a, none[a])
			}
		}
	}
	// They are new memory, and stay as they were told.
	vs := watch.Views(w.World, 2)
	clear(vs[0].Entries)
	clear(vs[0].Ends)
	vs[1] = world.View{}
	is(t, "Ringed behind what was written over", watch.Ringed(watch.Views(w.World, 3), w.Linked, 1), true)
	vs = watch.Views(w.World, 3)
	w.must(cut(0, 1), calm(1), crash(1))
	is(t, "Ringed of how it stood", watch.Ringed(vs, linked(1, 0), 1) && vs[1].Up && len(vs[0].Entries) == 1, true)
}

// P22.1: the chapter's example.
func TestExample(t *testing.T) {
	w := begin(t, config(1, 128, 64, 0x10, 0x90))
	w.must(boot(0), boot(1), link(0, 1), calm(3))
	w.look("behind three rounds", true, true)
	w.must(cut(0, 1))
	w.look("behind the cut", false, false)
	w.must(calm(1))
	w.look("a round later", true, true)
	if vs := watch.Views(w.World, 2); len(vs[0].Entries)+len(vs[1].Entries) != 0 {
		t.Errorf("%+v has entries", vs)
	}
}
