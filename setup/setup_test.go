package setup_test

import (
	"bytes"
	"math"
	"math/rand"
	"reflect"
	"slices"
	"testing"

	"annulet/api"
	"annulet/frame"
	"annulet/setup"
	"annulet/table"
)

// What the chapter says, told a second time: a table is a list of entries with a number of how many there may be; each call is a row of grounds, looked through from the first on.

// kept is a table, told whole; a nil one stands for a nil table.
type kept struct {
	room int
	has  []api.Entry
}

func (k *kept) copy() *kept {
	if k == nil {
		return nil
	}
	return &kept{room: k.room, has: slices.Clone(k.has)}
}

// refusal is what the table says of an entry.
func (k *kept) refusal(x api.Entry) api.Errno {
	may := []int{-1, 0, 1, 2, 3, 4, 5}
	if x.A == x.B || x.Na == x.Nb || !slices.Contains(may, x.Na) || !slices.Contains(may, x.Nb) {
		return api.ErrArg
	}
	for _, y := range k.has {
		if y.P == x.P {
			return api.ErrThere
		}
	}
	if len(k.has) >= k.room {
		return api.ErrFull
	}
	return api.OK
}

// sorted is what it has, by keys.
func (k *kept) sorted() []api.Entry {
	l := slices.Clone(k.has)
	slices.SortFunc(l, func(a, b api.Entry) int {
		if by := bytes.Compare(a.P.Who[:], b.P.Who[:]); by != 0 {
			return by
		}
		if a.P.N < b.P.N {
			return -1
		}
		return 1
	})
	return l
}

// toldSimple holds each place against all behind it.
func toldSimple(l []int) bool {
	for i, n := range l {
		for _, m := range l[i+1:] {
			if n == m {
				return false
			}
		}
	}
	return true
}

// toldOpen goes through all places that the list tells of.
func toldOpen(open []bool, n int) bool {
	for i, is := range open {
		if i == n {
			return is
		}
	}
	return false
}

func setupFrame(p api.Path, a, b api.ID, way []int) api.Frame {
	return api.Frame{Kind: 4, P: p, A: a, B: b, Trail: slices.Clone(way)}
}

func dropFrame(p api.Path) api.Frame { return api.Frame{Kind: 5, P: p} }

func hop(n int, f api.Frame) []api.Hop { return []api.Hop{{N: n, F: f}} }

// toldStart changes k, if nothing is wrong.
func toldStart(k *kept, self setup.Self, p api.Path, b api.ID, way []int, open []bool) (setup.Ended, api.Errno) {
	wrong := k == nil || len(way) <= 1 || len(way) >= 65 || !toldSimple(way)
	if wrong || way[0] != self.N || self.ID == b {
		return setup.Ended{}, 1
	}
	if !toldOpen(open, way[1]) {
		return setup.Ended{}, 10
	}
	x := api.Entry{P: p, A: self.ID, B: b, Na: -1, Nb: way[1]}
	switch e := k.refusal(x); e {
	case 0:
		k.has = append(k.has, x)
		return setup.Ended{Out: hop(way[1], setupFrame(p, self.ID, b, way)), Mine: true}, 0
	case 5:
		return setup.Ended{Full: true}, 5
	default:
		return setup.Ended{}, e
	}
}

// toldTake looks for from with self.N behind it, at every step of the trail.
func toldTake(k *kept, self setup.Self, from int, f api.Frame, open []bool) setup.Ended {
	if k == nil || f.Kind != 4 || !toldSimple(f.Trail) {
		return setup.Ended{}
	}
	for i := 1; i < len(f.Trail); i++ {
		if f.Trail[i-1] == from && f.Trail[i] == self.N {
			return toldLaid(k, self, from, f, f.Trail[i+1:], open)
		}
	}
	return setup.Ended{}
}

// toldLaid is what comes of a Setup that is for this node, of which rest are the places behind it.
func toldLaid(k *kept, self setup.Self, from int, f api.Frame, rest []int, open []bool) setup.Ended {
	refused := setup.Ended{Out: hop(from, dropFrame(f.P))}
	x := api.Entry{P: f.P, A: f.A, B: f.B, Na: from, Nb: -1}
	taken := setup.Ended{Mine: true}
	if len(rest) == 0 && f.B != self.ID {
		return refused
	}
	if len(rest) > 0 {
		if !toldOpen(open, rest[0]) {
			return refused
		}
		x.Nb = rest[0]
		taken = setup.Ended{Out: hop(rest[0], setupFrame(f.P, f.A, f.B, f.Trail))}
	}
	switch k.refusal(x) {
	case 0:
		k.has = append(k.has, x)
		return taken
	case 5:
		refused.Full = true
	}
	return refused
}

// tableOf is the table that is told.
func tableOf(t *testing.T, k *kept) *table.Table {
	t.Helper()
	if k == nil {
		return nil
	}
	tab := table.New(k.room)
	for _, x := range k.has {
		if e := tab.Add(x); e != api.OK {
			t.Fatalf("Add(%v) = %v", x, e)
		}
	}
	return tab
}

// looks holds a table against what it should have.
func looks(t *testing.T, what string, tab *table.Table, k *kept) {
	t.Helper()
	if k == nil {
		return
	}
	if l := tab.All(); !slices.Equal(l, k.sorted()) {
		t.Fatalf("%s: the table has %v, want %v", what, l, k.sorted())
	}
}

// sameFrame holds every field of two frames against each other; lists without elements are the same.
func sameFrame(f, g api.Frame) bool {
	return f.Kind == g.Kind && f.P == g.P && f.ToA == g.ToA && f.A == g.A && f.B == g.B && f.N == g.N &&
		f.From == g.From && f.To == g.To && f.Op == g.Op && f.TTL == g.TTL &&
		slices.Equal(f.Trail, g.Trail) && slices.Equal(f.IDs, g.IDs) && bytes.Equal(f.Text, g.Text) &&
		f.Item.Key == g.Item.Key && f.Item.Ver == g.Item.Ver && bytes.Equal(f.Item.Value, g.Item.Value)
}

func sameHop(a, b api.Hop) bool { return a.N == b.N && sameFrame(a.F, b.F) }

func same(a, b setup.Ended) bool {
	return a.Mine == b.Mine && a.Full == b.Full && slices.EqualFunc(a.Out, b.Out, sameHop)
}

// starts holds Start at this table, and the table behind it, against the second telling, which goes on with k.
func starts(t *testing.T, tab *table.Table, k *kept, self setup.Self, p api.Path, b api.ID, way []int, open []bool) setup.Ended {
	t.Helper()
	before := k.copy()
	want, e := toldStart(k, self, p, b, way, open)
	got, errno := setup.Start(tab, self, p, b, way, open)
	if !same(got, want) || errno != e {
		t.Fatalf("Start(%v, %v, %v, %x, %v, %v) = %v, %v, want %v, %v", before, self, p, b, way, open, got, errno, want, e)
	}
	looks(t, "Start", tab, k)
	return got
}

// takes holds Take at this table, and the table behind it, against the second telling, which goes on with k.
func takes(t *testing.T, tab *table.Table, k *kept, self setup.Self, from int, f api.Frame, open []bool) setup.Ended {
	t.Helper()
	before := k.copy()
	want := toldTake(k, self, from, f, open)
	got := setup.Take(tab, self, from, f, open)
	if !same(got, want) {
		t.Fatalf("Take(%v, %v, %d, %v, %v) = %v, want %v", before, self, from, f, open, got, want)
	}
	looks(t, "Take", tab, k)
	return got
}

// startsAt and takesAt make the table first.
func startsAt(t *testing.T, k *kept, self setup.Self, p api.Path, b api.ID, way []int, open []bool) {
	t.Helper()
	starts(t, tableOf(t, k), k.copy(), self, p, b, way, open)
}

func takesAt(t *testing.T, k *kept, self setup.Self, from int, f api.Frame, open []bool) {
	t.Helper()
	takes(t, tableOf(t, k), k.copy(), self, from, f, open)
}

var (
	anna = api.ID{1}
	bert = api.ID{15: 2}
	carl = api.ID{7: 1, 8: 128}
	key  = api.Path{Who: anna, N: 7}
	all  = []bool{true, true, true, true, true, true}
)

func entryOf(p api.Path, a, b api.ID, na, nb int) api.Entry {
	return api.Entry{P: p, A: a, B: b, Na: na, Nb: nb}
}

// others are keys that differ from key in one thing alone.
func others() []api.Path {
	return []api.Path{{Who: anna, N: 8}, {Who: anna, N: -7}, {Who: anna, N: 7 + 1<<32}, {Who: bert, N: 7}, {Who: api.ID{1, 15: 1}, N: 7}}
}

// tables are a nil one, such as have room (for one alone, too), and such as have none; with the key, and with others.
func tables() []*kept {
	mine := entryOf(key, anna, carl, 3, 4)
	other := entryOf(others()[0], anna, carl, -1, 4)
	return []*kept{
		nil,
		{room: 0},
		{room: 1},
		{room: 128},
		{room: 1, has: []api.Entry{other}},
		{room: 2, has: []api.Entry{other}},
		{room: 1, has: []api.Entry{mine}},
		{room: 9, has: []api.Entry{other, mine}},
	}
}

// trails are all lists of at most so many of these places.
func trails(most int, places ...int) [][]int {
	l := [][]int{nil}
	for from := 0; most > 0; most-- {
		to := len(l)
		for _, head := range l[from:to] {
			for _, n := range places {
				l = append(l, append(slices.Clone(head), n))
			}
		}
		from = to
	}
	return l
}

// opens are a nil list, an empty one, shorter and longer ones.
func opens() [][]bool {
	return [][]bool{nil, {}, {true}, {false, true}, {true, true, false, false, false, false, true}, all, {true, true, true, true, true, true, true, true, true}}
}

// P14.1, P14.2: the chapter's example.
func TestExample(t *testing.T) {
	open := []bool{true, true, true}
	zero, two, one := table.New(9), table.New(9), table.New(9)
	want := setupFrame(key, anna, bert, []int{0, 2, 1})
	a, e := setup.Start(zero, setup.Self{N: 0, ID: anna}, key, bert, []int{0, 2, 1}, open)
	if e != api.OK || !same(a, setup.Ended{Out: hop(2, want), Mine: true}) {
		t.Fatalf("at 0: %v, %v", a, e)
	}
	b := setup.Take(two, setup.Self{N: 2, ID: carl}, 0, a.Out[0].F, open)
	if !same(b, setup.Ended{Out: hop(1, want)}) {
		t.Fatalf("at 2: %v", b)
	}
	c := setup.Take(one, setup.Self{N: 1, ID: bert}, 2, b.Out[0].F, open)
	if !same(c, setup.Ended{Mine: true}) {
		t.Fatalf("at 1: %v", c)
	}
	looks(t, "at 0", zero, &kept{has: []api.Entry{entryOf(key, anna, bert, -1, 2)}})
	looks(t, "at 2", two, &kept{has: []api.Entry{entryOf(key, anna, bert, 0, 1)}})
	looks(t, "at 1", one, &kept{has: []api.Entry{entryOf(key, anna, bert, 2, -1)}})
	closed := table.New(9)
	d := setup.Take(closed, setup.Self{N: 2, ID: carl}, 0, a.Out[0].F, []bool{true, false, true})
	if !same(d, setup.Ended{Out: hop(0, dropFrame(key))}) {
		t.Fatalf("with 1 not open at 2: %v", d)
	}
	looks(t, "with 1 not open at 2", closed, &kept{})
}

// P14.1, P14.2: Start with all short ways, at all tables, with all lists of open sessions.
func TestShortStarts(t *testing.T) {
	for _, way := range trails(4, -1, 0, 1, 5, 6) {
		for _, n := range []int{-1, 0, 1, 6} {
			for _, b := range []api.ID{anna, bert} {
				for _, k := range tables() {
					for _, open := range opens() {
						startsAt(t, k, setup.Self{N: n, ID: anna}, key, b, way, open)
					}
				}
			}
		}
	}
}

// P14.1, P14.2: Take of all short trails, from everywhere, at all tables, with all lists of open sessions.
func TestShortTakes(t *testing.T) {
	for _, way := range trails(3, -1, 0, 1, 2, 6) {
		f := setupFrame(key, anna, bert, way)
		for _, self := range []setup.Self{{N: 0, ID: bert}, {N: 0, ID: carl}, {N: 1, ID: bert}, {N: -1, ID: bert}, {N: 6, ID: bert}} {
			for _, from := range []int{-1, 0, 1, 2, 3, 6} {
				for _, k := range tables() {
					for _, open := range opens() {
						takesAt(t, k, self, from, f, open)
					}
				}
			}
		}
	}
}

// P14.1: Start, written out.
func TestStartAtEdges(t *testing.T) {
	self := setup.Self{N: 3, ID: anna}
	wide := slices.Repeat([]bool{true}, 10)
	roomy := &kept{room: 5}
	none := &kept{}
	there := &kept{room: 1, has: []api.Entry{entryOf(key, bert, carl, 0, 1)}}
	for _, c := range []struct {
		what string
		k    *kept
		self setup.Self
		b    api.ID
		way  []int
		open []bool
		e    api.Errno
	}{
		{"ordinary", roomy, self, bert, []int{3, 1, 2}, all, api.OK},
		{"two places", roomy, self, bert, []int{3, 0}, all, api.OK},
		{"the last place that may be", roomy, self, bert, []int{3, 5}, all, api.OK},
		{"only the next place is open", roomy, self, bert, []int{3, 1, 2}, []bool{false, true}, api.OK},
		{"places beyond the next one are nobody's", roomy, self, bert, []int{3, 1, -9, math.MaxInt}, all, api.OK},
		{"the node's own place is nobody's", roomy, setup.Self{N: math.MinInt, ID: anna}, bert, []int{math.MinInt, 1}, all, api.OK},
		{"zero identities", roomy, setup.Self{N: 3, ID: api.ID{}}, bert, []int{3, 1}, all, api.OK},
		{"a nil table", nil, self, bert, []int{3, 1, 2}, all, api.ErrArg},
		{"no place", roomy, self, bert, nil, all, api.ErrArg},
		{"an empty way", roomy, self, bert, []int{}, all, api.ErrArg},
		{"one place", roomy, self, bert, []int{3}, all, api.ErrArg},
		{"not simple at its end", roomy, self, bert, []int{3, 1, 2, 1}, all, api.ErrArg},
		{"not simple at once", roomy, self, bert, []int{3, 3}, all, api.ErrArg},
		{"back to the node", roomy, self, bert, []int{3, 1, 3}, all, api.ErrArg},
		{"not simple, with a place that is none", roomy, self, bert, []int{3, 1, -1, -1}, all, api.ErrArg},
		{"doesn't begin with the node", roomy, self, bert, []int{1, 3}, all, api.ErrArg},
		{"doesn't have the node", roomy, self, bert, []int{1, 2}, all, api.ErrArg},
		{"to itself", roomy, self, anna, []int{3, 1, 2}, all, api.ErrArg},
		{"the next place isn't open", roomy, self, bert, []int{3, 1, 2}, []bool{true, false, true, true}, api.ErrOpen},
		{"behind the end of the list", roomy, self, bert, []int{3, 2}, []bool{true, true}, api.ErrOpen},
		{"far behind the end of the list", roomy, self, bert, []int{3, math.MaxInt}, all, api.ErrOpen},
		{"ahead of the list", roomy, self, bert, []int{3, -1}, all, api.ErrOpen},
		{"far ahead of the list", roomy, self, bert, []int{3, math.MinInt}, all, api.ErrOpen},
		{"a nil list", roomy, self, bert, []int{3, 0}, nil, api.ErrOpen},
		{"an empty list", roomy, self, bert, []int{3, 0}, []bool{}, api.ErrOpen},
		{"an entry that isn't right, open all the same", roomy, self, bert, []int{3, 6}, wide, api.ErrArg},
		{"the key is there", there, self, bert, []int{3, 1}, all, api.ErrThere},
		{"no room", none, self, bert, []int{3, 1}, all, api.ErrFull},

		{"to itself, and not open", roomy, self, anna, []int{3, 1}, nil, api.ErrArg},
		{"not simple, and not open", roomy, self, bert, []int{3, 1, 1}, nil, api.ErrArg},
		{"another place, and not open", roomy, self, bert, []int{1, 2}, nil, api.ErrArg},
		{"a nil table, and not open", nil, self, bert, []int{3, 1}, nil, api.ErrArg},
		{"not open, and the entry wouldn't be right", roomy, self, bert, []int{3, 6}, all, api.ErrOpen},
		{"not open, and the key is there", there, self, bert, []int{3, 1}, nil, api.ErrOpen},
		{"not open, and no room", none, self, bert, []int{3, 1}, nil, api.ErrOpen},
		{"not right, and the key is there", there, self, bert, []int{3, 6}, wide, api.ErrArg},
		{"not right, and no room", none, self, bert, []int{3, 6}, wide, api.ErrArg},
	} {
		t.Run(c.what, func(t *testing.T) {
			want := setup.Ended{Full: c.e == api.ErrFull}
			if c.e == api.OK {
				want = setup.Ended{Out: hop(c.way[1], setupFrame(key, c.self.ID, c.b, c.way)), Mine: true}
			}
			if got, e := setup.Start(tableOf(t, c.k), c.self, key, c.b, c.way, c.open); !same(got, want) || e != c.e {
				t.Fatalf("Start = %v, %v, want %v, %v", got, e, want, c.e)
			}
			startsAt(t, c.k, c.self, key, c.b, c.way, c.open)
		})
	}
}

// P14.1: ways of every length up to beyond MaxTTL; from 2 to 64 places a path begins.
func TestLengthsOfWays(t *testing.T) {
	way := []int{4}
	for n := 1; n < 200; n++ {
		may := len(way) >= 2 && len(way) <= 64
		k := &kept{room: 1}
		tab := tableOf(t, k)
		if ended := starts(t, tab, k, setup.Self{N: 4, ID: anna}, key, bert, way, all); ended.Mine != may || tab.Len() == 1 != may {
			t.Fatalf("%d places: %v", len(way), ended)
		}
		next := n - 1
		if next >= 4 {
			next++
		}
		way = append(way, next)
	}
	if api.MaxTTL != 64 {
		t.Fatal("another limit")
	}
}

// drops, passes and lands are what may come of a Setup at a node; nothing is the zero one.
func drops(n int) setup.Ended { return setup.Ended{Out: hop(n, dropFrame(key))} }

func full(n int) setup.Ended { return setup.Ended{Out: hop(n, dropFrame(key)), Full: true} }

func passes(n int, way ...int) setup.Ended {
	return setup.Ended{Out: hop(n, setupFrame(key, anna, bert, way))}
}

// P14.1: Take, written out.
func TestTakeAtEdges(t *testing.T) {
	mid := setup.Self{N: 2, ID: carl}
	last := setup.Self{N: 1, ID: bert}
	wide := slices.Repeat([]bool{true}, 10)
	roomy, none := &kept{room: 5}, &kept{}
	there := &kept{room: 1, has: []api.Entry{entryOf(key, bert, carl, 0, 1)}}
	lands := setup.Ended{Mine: true}
	for _, c := range []struct {
		what string
		k    *kept
		self setup.Self
		from int
		way  []int
		open []bool
		want setup.Ended
	}{
		{"in the middle", roomy, mid, 0, []int{0, 2, 1}, all, passes(1, 0, 2, 1)},
		{"farther behind", roomy, mid, 3, []int{0, 3, 2, 1, 4}, all, passes(1, 0, 3, 2, 1, 4)},
		{"at its end", roomy, last, 2, []int{0, 2, 1}, all, lands},
		{"at the end of two places", roomy, last, 0, []int{0, 1}, all, lands},
		{"only the next place is open", roomy, mid, 0, []int{0, 2, 1}, []bool{false, true}, passes(1, 0, 2, 1)},
		{"at its end nothing need be open", roomy, last, 2, []int{0, 2, 1}, nil, lands},
		{"in the middle of one's own path", roomy, setup.Self{N: 2, ID: bert}, 0, []int{0, 2, 1}, all, passes(1, 0, 2, 1)},
		{"with who made it in the middle", roomy, setup.Self{N: 2, ID: anna}, 0, []int{0, 2, 1}, all, passes(1, 0, 2, 1)},
		{"other places are nobody's", roomy, mid, 0, []int{math.MinInt, 0, 2, 1, 77}, all, passes(1, math.MinInt, 0, 2, 1, 77)},
		{"the node's own place is nobody's", roomy, setup.Self{N: math.MaxInt, ID: carl}, 0, []int{0, math.MaxInt, 1}, all, passes(1, 0, math.MaxInt, 1)},
		{"from a place that stands for none", roomy, mid, -1, []int{-1, 2, 1}, all, passes(1, -1, 2, 1)},
		{"a node at -1, in the middle", roomy, setup.Self{N: -1, ID: carl}, 0, []int{0, -1, 1}, all, passes(1, 0, -1, 1)},

		{"at the front", roomy, setup.Self{N: 0, ID: carl}, 0, []int{0, 2, 1}, all, setup.Ended{}},
		{"at the front, from none", roomy, setup.Self{N: 0, ID: carl}, -1, []int{0, 2, 1}, all, setup.Ended{}},
		{"at the front, from its end", roomy, setup.Self{N: 0, ID: carl}, 1, []int{0, 2, 1}, all, setup.Ended{}},
		{"nowhere", roomy, setup.Self{N: 4, ID: carl}, 0, []int{0, 2, 1}, all, setup.Ended{}},
		{"nowhere, from its end", roomy, setup.Self{N: 4, ID: bert}, 1, []int{0, 2, 1}, all, setup.Ended{}},
		{"a node at -1, nowhere", roomy, setup.Self{N: -1, ID: carl}, 1, []int{0, 2, 1}, all, setup.Ended{}},
		{"from behind", roomy, mid, 1, []int{0, 2, 1}, all, setup.Ended{}},
		{"from two ahead", roomy, last, 0, []int{0, 2, 1}, all, setup.Ended{}},
		{"from itself", roomy, mid, 2, []int{0, 2, 1}, all, setup.Ended{}},
		{"from nowhere", roomy, mid, 5, []int{0, 2, 1}, all, setup.Ended{}},
		{"from far off", roomy, mid, math.MinInt, []int{0, 2, 1}, all, setup.Ended{}},
		{"one place", roomy, last, 0, []int{1}, all, setup.Ended{}},
		{"no place", roomy, last, 0, nil, all, setup.Ended{}},
		{"an empty trail", roomy, last, 0, []int{}, all, setup.Ended{}},
		{"not simple behind it", roomy, mid, 0, []int{0, 2, 1, 1}, all, setup.Ended{}},
		{"not simple ahead of it", roomy, mid, 0, []int{3, 3, 0, 2, 1}, all, setup.Ended{}},
		{"comes by twice", roomy, mid, 0, []int{0, 2, 1, 0, 2}, all, setup.Ended{}},
		{"a nil table", nil, mid, 0, []int{0, 2, 1}, all, setup.Ended{}},
		{"a nil table at its end", nil, last, 2, []int{0, 2, 1}, all, setup.Ended{}},

		{"its end, for another", roomy, setup.Self{N: 1, ID: carl}, 2, []int{0, 2, 1}, all, drops(2)},
		{"its end, for who made it", roomy, setup.Self{N: 1, ID: anna}, 2, []int{0, 2, 1}, all, drops(2)},
		{"not open", roomy, mid, 0, []int{0, 2, 1}, []bool{true, false, true, true}, drops(0)},
		{"not open, though the node is B", roomy, setup.Self{N: 2, ID: bert}, 0, []int{0, 2, 1}, nil, drops(0)},
		{"behind the end of the list", roomy, mid, 0, []int{0, 2, 1}, []bool{true}, drops(0)},
		{"far behind the end of the list", roomy, mid, 0, []int{0, 2, math.MaxInt}, all, drops(0)},
		{"ahead of the list", roomy, mid, 0, []int{0, 2, -1}, all, drops(0)},
		{"far ahead of the list", roomy, mid, 0, []int{0, 2, math.MinInt}, all, drops(0)},
		{"a nil list", roomy, mid, 0, []int{0, 2, 1}, nil, drops(0)},
		{"an empty list", roomy, mid, 0, []int{0, 2, 1}, []bool{}, drops(0)},
		{"the key is there", there, mid, 0, []int{0, 2, 1}, all, drops(0)},
		{"the key is there, at its end", there, last, 2, []int{0, 2, 1}, all, drops(2)},
		{"no room", none, mid, 0, []int{0, 2, 1}, all, full(0)},
		{"no room, at its end", none, last, 2, []int{0, 2, 1}, all, full(2)},
		{"the next place isn't right, open all the same", roomy, mid, 0, []int{0, 2, 6}, wide, drops(0)},
		{"from isn't right", roomy, mid, 6, []int{6, 2, 1}, wide, drops(6)},
		{"from is far off", roomy, mid, math.MinInt, []int{math.MinInt, 2, 1}, wide, drops(math.MinInt)},
		{"from none, at its end", roomy, last, -1, []int{-1, 1}, all, drops(-1)},

		{"for another, and no room", none, setup.Self{N: 1, ID: carl}, 2, []int{0, 2, 1}, all, drops(2)},
		{"not open, and no room", none, mid, 0, []int{0, 2, 1}, nil, drops(0)},
		{"not right, and no room", none, mid, 0, []int{0, 2, 6}, wide, drops(0)},
		{"not for it, and no room", none, mid, 5, []int{0, 2, 1}, all, setup.Ended{}},
	} {
		t.Run(c.what, func(t *testing.T) {
			f := setupFrame(key, anna, bert, c.way)
			if got := setup.Take(tableOf(t, c.k), c.self, c.from, f, c.open); !same(got, c.want) {
				t.Fatalf("Take = %v, want %v", got, c.want)
			}
			takesAt(t, c.k, c.self, c.from, f, c.open)
		})
	}
}

// P14.1, P14.2: a Setup whose ends are one is refused everywhere, also at its end.
func TestEndsThatAreOne(t *testing.T) {
	f := setupFrame(key, bert, bert, []int{0, 2, 1})
	for _, k := range []*kept{{room: 3}, {}} {
		for _, self := range []setup.Self{{N: 2, ID: carl}, {N: 2, ID: bert}, {N: 1, ID: bert}} {
			from := 2 - 2*(self.N-1)
			if got := setup.Take(tableOf(t, k), self, from, f, all); !same(got, drops(from)) {
				t.Errorf("at %d: %v", self.N, got)
			}
			takesAt(t, k, self, from, f, all)
		}
	}
}

// P14.1: what a Setup brings is told on and kept as it is, whatever stands in it: keys of any number, long trails, and also an A that is the node.
func TestWhateverItBrings(t *testing.T) {
	long := []int{7, 0, 2, 1}
	for n := range 500 {
		long = append(long, 8+n)
	}
	for _, p := range []api.Path{{}, {N: math.MinInt64}, {N: math.MaxInt64}, {Who: api.ID{255}, N: -1}} {
		for _, ends := range [][2]api.ID{{anna, bert}, {bert, anna}, {{}, bert}, {bert, {}}, {carl, bert}} {
			f := setupFrame(p, ends[0], ends[1], long)
			k := &kept{room: 1}
			ended := takes(t, tableOf(t, k), k, setup.Self{N: 2, ID: carl}, 0, f, all)
			if !same(ended, setup.Ended{Out: hop(1, f)}) || !slices.Equal(k.has, []api.Entry{entryOf(p, ends[0], ends[1], 0, 1)}) {
				t.Fatalf("Take = %v, kept %v", ended, k.has)
			}
			takesAt(t, &kept{room: 1}, setup.Self{N: 2, ID: ends[1]}, 0, setupFrame(p, ends[0], ends[1], long[:3]), nil)
		}
	}
}

// loaded is a frame in which every field has something.
func loaded(kind int) api.Frame {
	return api.Frame{
		Kind: kind, P: key, ToA: true, A: anna, B: bert, N: 5, From: api.Num{Inc: 1, N: 2}, To: api.Num{Inc: 3, N: 4},
		Trail: []int{0, 2, 1}, IDs: []api.ID{carl}, Item: api.Item{Key: carl, Ver: api.Ver{N: 6, Who: anna}, Value: []byte("v")},
		Op: 2, TTL: 9, Text: []byte("text"),
	}
}

// P14.1, R5: of a Setup only what counts is told on.
func TestFieldsThatDontCount(t *testing.T) {
	f := loaded(api.Setup)
	for _, c := range []struct {
		self setup.Self
		from int
		open []bool
		want setup.Ended
	}{
		{setup.Self{N: 2, ID: carl}, 0, all, passes(1, 0, 2, 1)},
		{setup.Self{N: 2, ID: carl}, 0, nil, drops(0)},
		{setup.Self{N: 1, ID: bert}, 2, all, setup.Ended{Mine: true}},
		{setup.Self{N: 1, ID: carl}, 2, all, drops(2)},
		{setup.Self{N: 1, ID: bert}, 0, all, setup.Ended{}},
	} {
		got := setup.Take(table.New(1), c.self, c.from, f, c.open)
		if !same(got, c.want) {
			t.Errorf("Take at %v = %v, want %v", c.self, got, c.want)
		}
		for _, h := range got.Out {
			if _, e := frame.Encode(h.F); e != api.OK {
				t.Errorf("%v has no bytes: %v", h.F, e)
			}
		}
		takesAt(t, &kept{room: 1}, c.self, c.from, f, c.open)
	}
}

// P14.1, P14.2: frames of every other kind, and of none, say nothing, whatever stands in them.
func TestOtherKinds(t *testing.T) {
	kinds := []int{math.MinInt, math.MaxInt, 1 << 32, 4 + 1<<32, -4}
	for kind := -2; kind < 20; kind++ {
		kinds = append(kinds, kind)
	}
	for _, kind := range kinds {
		for _, f := range []api.Frame{loaded(kind), {Kind: kind}} {
			if kind == api.Setup {
				continue
			}
			for _, self := range []setup.Self{{N: 2, ID: carl}, {N: 1, ID: bert}} {
				for _, k := range tables() {
					for from := -1; from < 3; from++ {
						if got := setup.Take(tableOf(t, k), self, from, f, all); !reflect.DeepEqual(got, setup.Ended{}) {
							t.Fatalf("Take of kind %d = %v", kind, got)
						}
						takesAt(t, k, self, from, f, all)
					}
				}
			}
		}
	}
}

// P14.1, P14.2: keys that are alike, but not the same, are no ground to refuse.
func TestKeysThatAreAlike(t *testing.T) {
	k := &kept{room: 9}
	tab := tableOf(t, k)
	for i, p := range others() {
		if i%2 == 0 {
			starts(t, tab, k, setup.Self{N: 0, ID: anna}, p, bert, []int{0, 1}, all)
		} else {
			takes(t, tab, k, setup.Self{N: 1, ID: bert}, 0, setupFrame(p, anna, bert, []int{0, 1}), all)
		}
		if tab.Len() != i+1 {
			t.Fatalf("%v wasn't taken", p)
		}
	}
	starts(t, tab, k, setup.Self{N: 0, ID: anna}, key, bert, []int{0, 1}, all)
	takes(t, tab, k, setup.Self{N: 1, ID: bert}, 0, setupFrame(key, anna, bert, []int{0, 1}), all)
	if tab.Len() != len(others())+1 {
		t.Fatal("a key was taken twice, or not at all")
	}
}

// P14.2: what is refused leaves the table as it was, also in how many it has room for.
func TestRefusedTakesNoRoom(t *testing.T) {
	k := &kept{room: 3}
	tab := tableOf(t, k)
	last := setup.Self{N: 1, ID: bert}
	for n := range int64(50) {
		p := api.Path{Who: carl, N: n}
		starts(t, tab, k, last, p, bert, []int{1, 0}, all)
		starts(t, tab, k, last, p, anna, []int{1, 0}, nil)
		starts(t, tab, k, last, p, anna, []int{1, 6}, slices.Repeat([]bool{true}, 7))
		takes(t, tab, k, last, 0, setupFrame(p, carl, anna, []int{0, 1}), all)
		takes(t, tab, k, last, 0, setupFrame(p, carl, anna, []int{0, 1, 2}), nil)
		takes(t, tab, k, last, 0, setupFrame(p, bert, bert, []int{0, 1}), all)
		takes(t, tab, k, last, 2, setupFrame(p, carl, bert, []int{0, 1}), all)
	}
	for n := range int64(5) {
		starts(t, tab, k, last, api.Path{N: n}, anna, []int{1, 0}, all)
		if want := min(int(n)+1, 3); tab.Len() != want {
			t.Fatalf("it has %d, want %d", tab.Len(), want)
		}
	}
}

// drawn are trails, places and lists, of few numbers and of many.
type drawn struct{ *rand.Rand }

func (r drawn) id() api.ID { return []api.ID{anna, bert, carl, {}}[r.Intn(4)] }

func (r drawn) place() int {
	if r.Intn(8) > 0 {
		return r.Intn(api.MaxNodes)
	}
	return []int{-1, 6, 7, 63, -2, math.MaxInt, math.MinInt}[r.Intn(7)]
}

// way is most often simple, and most often short.
func (r drawn) way() []int {
	many := r.Intn(9)
	if r.Intn(4) == 0 {
		many = r.Intn(80)
	}
	l := r.Perm(max(many, api.MaxNodes))[:many]
	for i := range l {
		if r.Intn(30) == 0 {
			l[i] = r.place()
		}
	}
	return l
}

// self is most often one of the trail, and from the one right ahead of it.
func (r drawn) self(way []int) (setup.Self, int) {
	self, from := setup.Self{N: r.place(), ID: r.id()}, r.place()
	if len(way) > 1 && r.Intn(8) > 0 {
		at := 1 + r.Intn(len(way)-1)
		if r.Intn(4) == 0 {
			at = len(way) - 1
		}
		self.N, from = way[at], way[at-1]
	}
	if r.Intn(10) == 0 {
		from = r.place()
	}
	return self, from
}

func (r drawn) open() []bool {
	l := make([]bool, r.Intn(12))
	closed := 1 + r.Intn(20)
	for i := range l {
		l[i] = r.Intn(closed) > 0
	}
	return l
}

func (r drawn) key() api.Path { return api.Path{Who: r.id(), N: int64(r.Intn(60))} }

// P14.1, P14.2: scripts of calls at one table, drawn: it fills, and what it has is never changed; entries are taken out now and then.
func TestDrawnScripts(t *testing.T) {
	r := drawn{rand.New(rand.NewSource(14))}
	for range 300 {
		k := &kept{room: r.Intn(129)}
		if r.Intn(2) == 0 {
			k.room = r.Intn(6)
		}
		tab := tableOf(t, k)
		for range 150 {
			way, open := r.way(), r.open()
			switch self, from := r.self(way); {
			case r.Intn(12) == 0 && len(k.has) > 0:
				at := r.Intn(len(k.has))
				tab.Remove(k.has[at].P)
				k.has = slices.Delete(k.has, at, at+1)
			case r.Intn(3) == 0:
				if len(way) > 0 && r.Intn(8) > 0 {
					self.N = way[0]
				}
				starts(t, tab, k, self, r.key(), r.id(), way, open)
			default:
				f := setupFrame(r.key(), r.id(), r.id(), way)
				if r.Intn(10) == 0 {
					f.Kind = r.Intn(14)
				}
				takes(t, tab, k, self, from, f, open)
			}
		}
	}
}

// perms are all simple trails of so many places out of MaxNodes.
func perms(many int) [][]int {
	var l [][]int
	for _, way := range trails(many, 0, 1, 2, 3, 4, 5) {
		if len(way) == many && toldSimple(way) {
			l = append(l, way)
		}
	}
	return l
}

// walk goes along a trail from its first place to its last, and answers the tables.
func walk(t *testing.T, way []int, tabs []*table.Table, p api.Path, ids []api.ID) {
	t.Helper()
	last := len(way) - 1
	self := func(i int) setup.Self { return setup.Self{N: way[i], ID: ids[i]} }
	ended, e := setup.Start(tabs[0], self(0), p, ids[last], way, all)
	if e != api.OK || !ended.Mine || ended.Full {
		t.Fatalf("Start along %v = %v, %v", way, ended, e)
	}
	for i := 1; i <= last; i++ {
		if len(ended.Out) != 1 || ended.Out[0].N != way[i] {
			t.Fatalf("along %v %v is told, want a frame for %d", way, ended.Out, way[i])
		}
		b, e := frame.Encode(ended.Out[0].F)
		if e != api.OK {
			t.Fatalf("along %v: %v has no bytes: %v", way, ended.Out[0].F, e)
		}
		f, _ := frame.Decode(b)
		ended = setup.Take(tabs[i], self(i), way[i-1], f, all)
		if ended.Mine != (i == last) || ended.Full {
			t.Fatalf("Take at place %d of %v = %v", i, way, ended)
		}
	}
	if len(ended.Out) > 0 {
		t.Fatalf("at the end of %v %v is told", way, ended.Out)
	}
}

// laid is the entry that stands at each place of a trail behind a walk.
func laid(way []int, i int, p api.Path, ids []api.ID) api.Entry {
	x := entryOf(p, ids[0], ids[len(ids)-1], -1, -1)
	if i > 0 {
		x.Na = way[i-1]
	}
	if i < len(way)-1 {
		x.Nb = way[i+1]
	}
	return x
}

// P14.3: along every simple trail of 2 to MaxNodes places; each table has room for just the one.
func TestWholePaths(t *testing.T) {
	ids := []api.ID{anna, carl, {3}, {4}, {5}, bert}
	for many := 2; many <= api.MaxNodes; many++ {
		for _, way := range perms(many) {
			var tabs []*table.Table
			for range way {
				tabs = append(tabs, table.New(1))
			}
			walk(t, way, tabs, key, ids[:many])
			for i, tab := range tabs {
				if l := tab.All(); !slices.Equal(l, []api.Entry{laid(way, i, key, ids[:many])}) {
					t.Fatalf("place %d of %v has %v", i, way, l)
				}
			}
		}
	}
}

// P14.3, P14.2: many paths at the same six nodes, till their tables have no more room; each lies as it was laid, beside all others.
func TestManyPaths(t *testing.T) {
	r := drawn{rand.New(rand.NewSource(143))}
	var tabs []*table.Table
	var want []*kept
	for range api.MaxNodes {
		tabs, want = append(tabs, table.New(api.MaxPaths)), append(want, &kept{})
	}
	for n := range int64(api.MaxPaths) {
		way := r.Perm(api.MaxNodes)[:2+r.Intn(api.MaxNodes-1)]
		var along []*table.Table
		var ids []api.ID
		for _, place := range way {
			along, ids = append(along, tabs[place]), append(ids, api.ID{9, 15: byte(place)})
		}
		p := api.Path{Who: ids[0], N: n}
		walk(t, way, along, p, ids)
		for i, place := range way {
			want[place].has = append(want[place].has, laid(way, i, p, ids))
		}
		for place, tab := range tabs {
			looks(t, "many paths", tab, want[place])
		}
	}
}

// P14.3 needs all sessions open and room: where one isn't, a Drop goes back, and nothing is told on.
func TestPathsThatBreak(t *testing.T) {
	way := []int{4, 0, 3, 1, 5}
	for at := 1; at < len(way); at++ {
		f := setupFrame(key, anna, bert, way)
		self := setup.Self{N: way[at], ID: carl}
		closed := slices.Clone(all)
		if at+1 < len(way) {
			closed[way[at+1]] = false
		}
		if got := setup.Take(table.New(1), self, way[at-1], f, closed); !same(got, drops(way[at-1])) {
			t.Errorf("closed at %d: %v", at, got)
		}
		if at == len(way)-1 {
			self.ID = bert
		}
		if got := setup.Take(table.New(0), self, way[at-1], f, all); !same(got, full(way[at-1])) {
			t.Errorf("no room at %d: %v", at, got)
		}
	}
}

// spare is a list with room behind its end, filled with what is seen if it is touched.
func spare[T any](l []T, fill T) []T {
	out := append(slices.Clone(l), fill, fill, fill)
	return out[:len(l)]
}

// whole is a list with its spare room.
func whole[T any](l []T) []T { return slices.Clone(l[:cap(l)]) }

// R3: what is handed in stays as it is, its spare room too.
func TestHandedInStays(t *testing.T) {
	for _, k := range tables() {
		for _, way := range [][]int{{0, 2, 1}, {2, 1}, {0, 2}, {2, 2}} {
			for _, open := range [][]bool{{true, true}, {false}} {
				l, o := spare(way, 77), spare(open, true)
				f := loaded(api.Setup)
				f.Trail, f.IDs = spare(way, 88), spare(f.IDs, carl)
				f.Text, f.Item.Value = spare(f.Text, 1), spare(f.Item.Value, 2)
				g := f
				g.Trail, g.IDs, g.Text, g.Item.Value = whole(f.Trail), whole(f.IDs), whole(f.Text), whole(f.Item.Value)
				wantL, wantO := whole(l), whole(o)
				setup.Start(tableOf(t, k), setup.Self{N: 2, ID: anna}, key, bert, l, o)
				setup.Take(tableOf(t, k), setup.Self{N: 2, ID: bert}, 0, f, o)
				f.Trail, f.IDs, f.Text, f.Item.Value = whole(f.Trail), whole(f.IDs), whole(f.Text), whole(f.Item.Value)
				if !slices.Equal(whole(l), wantL) || !slices.Equal(whole(o), wantO) || !sameFrame(f, g) {
					t.Fatalf("changed: %v, %v, %v", whole(l), whole(o), f)
				}
			}
		}
	}
}

// spoil changes all of a list that it can reach.
func spoil(l []int) {
	l = l[:cap(l)]
	for i := range l {
		l[i] = -99
	}
}

// R3: what is told is memory of its own: whoever changes it changes nothing that was handed in, and the other way round; the table keeps none of it.
func TestToldIsNewMemory(t *testing.T) {
	way := []int{0, 2, 1}
	for _, first := range []bool{true, false} {
		handed, open := slices.Clone(way), slices.Clone(all)
		tab := table.New(2)
		var ended setup.Ended
		self := setup.Self{N: 2, ID: carl}
		want := []api.Entry{entryOf(key, anna, bert, 0, 1)}
		if first {
			self = setup.Self{N: 0, ID: anna}
			want = []api.Entry{entryOf(key, anna, bert, -1, 2)}
			ended, _ = setup.Start(tab, self, key, bert, handed, open)
		} else {
			ended = setup.Take(tab, self, 0, api.Frame{Kind: api.Setup, P: key, A: anna, B: bert, Trail: handed}, open)
		}
		told := ended.Out[0].F
		spoil(handed)
		open[1], open[2] = false, false
		if !slices.Equal(told.Trail, way) {
			t.Fatalf("what was told became %v", told.Trail)
		}
		copy(handed, way)
		spoil(told.Trail)
		if !slices.Equal(handed, way) {
			t.Fatalf("what was handed in became %v", handed)
		}
		if l := tab.All(); !slices.Equal(l, want) {
			t.Fatalf("the table has %v", l)
		}
	}
}

// R3: no two answers share anything.
func TestAnswersShareNothing(t *testing.T) {
	f := setupFrame(key, anna, bert, []int{0, 2, 1})
	self := setup.Self{N: 2, ID: carl}
	a := setup.Take(table.New(1), self, 0, f, all)
	b := setup.Take(table.New(1), self, 0, f, all)
	spoil(a.Out[0].F.Trail)
	a.Out[0] = api.Hop{N: 99}
	if !same(b, passes(1, 0, 2, 1)) {
		t.Fatalf("the second became %v", b)
	}
}

// R2: equal tables, however they came to be, and as often as it is asked, answer the same.
func TestSameAgain(t *testing.T) {
	k := &kept{room: 4}
	for i, p := range others()[:3] {
		k.has = append(k.has, entryOf(p, anna, carl, -1, i))
	}
	back := k.copy()
	slices.Reverse(back.has)
	for range 20 {
		for _, x := range []*kept{k, back} {
			startsAt(t, x, setup.Self{N: 0, ID: anna}, key, bert, []int{0, 2, 1}, all)
			takesAt(t, x, setup.Self{N: 2, ID: carl}, 0, setupFrame(key, anna, bert, []int{0, 2, 1}), all)
		}
	}
}

// R4: a nil list and an empty one mean the same, in every argument.
func TestNilAndEmpty(t *testing.T) {
	for _, k := range tables() {
		for _, n := range []int{-1, 0, 2} {
			self := setup.Self{N: n, ID: bert}
			for _, way := range [][]int{nil, {}} {
				for _, open := range [][]bool{nil, {}} {
					if got, e := setup.Start(tableOf(t, k), self, key, anna, way, open); !same(got, setup.Ended{}) || e != api.ErrArg {
						t.Errorf("Start = %v, %v", got, e)
					}
					if got := setup.Take(tableOf(t, k), self, 0, setupFrame(key, anna, bert, way), open); !same(got, setup.Ended{}) {
						t.Errorf("Take = %v", got)
					}
				}
			}
		}
	}
}
