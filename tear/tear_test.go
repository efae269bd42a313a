package tear_test

import (
	"bytes"
	"math"
	"math/rand"
	"reflect"
	"slices"
	"testing"

	"annulet/api"
	"annulet/table"
	"annulet/tear"
)

// What the chapter says, told a second time: a table is a list of entries in any order; that a neighbour's session died is as if it had sent a Drop of every path; who is wanted is read off the ring laid open at the node itself.

// kept is a table, told whole, in any order; nil stands for a nil table.
type kept []api.Entry

func ahead(a, b api.Path) bool {
	by := bytes.Compare(a.Who[:], b.Who[:])
	return by < 0 || by == 0 && a.N < b.N
}

// sorted lays each one behind as many as are ahead of it.
func (k kept) sorted() kept {
	out := make(kept, len(k))
	for _, x := range k {
		at := 0
		for _, y := range k {
			if ahead(y.P, x.P) {
				at++
			}
		}
		out[at] = x
	}
	return out
}

func (k kept) without(p api.Path) kept {
	var out kept
	for _, x := range k {
		if x.P != p {
			out = append(out, x)
		}
	}
	return out
}

// lead is an own entry, with where it leads.
type lead struct {
	api.Entry
	end api.ID
}

// leads are the own ones, by keys.
func (k kept) leads() []lead {
	var l []lead
	for _, x := range k.sorted() {
		switch -1 {
		case x.Na:
			l = append(l, lead{x, x.B})
		case x.Nb:
			l = append(l, lead{x, x.A})
		}
	}
	return l
}

func dropFor(n int, p api.Path) api.Hop {
	return api.Hop{N: n, F: api.Frame{Kind: 5, P: p}}
}

// says is what becomes of p, if these sides are told.
func says(p api.Path, sides ...int) tear.Torn {
	var torn tear.Torn
	for _, n := range sides {
		switch n {
		case -1:
			torn.Lost = append(torn.Lost, p)
		default:
			torn.Out = append(torn.Out, dropFor(n, p))
		}
	}
	return torn
}

func toldDrop(k kept, from int, p api.Path) (tear.Torn, kept) {
	for _, x := range k {
		if x.P != p || from < 0 {
			continue
		}
		switch from {
		case x.Na:
			return says(p, x.Nb), k.without(p)
		case x.Nb:
			return says(p, x.Na), k.without(p)
		}
	}
	return tear.Torn{}, k
}

func toldDead(k kept, n int) (tear.Torn, kept) {
	var all tear.Torn
	for _, x := range k.sorted() {
		var one tear.Torn
		one, k = toldDrop(k, n, x.P)
		all.Out, all.Lost = append(all.Out, one.Out...), append(all.Lost, one.Lost...)
	}
	return all, k
}

func toldEnd(k kept, p api.Path) (tear.Torn, kept) {
	for _, x := range k.leads() {
		if x.P == p {
			return says(p, x.Na, x.Nb), k.without(p)
		}
	}
	return tear.Torn{}, k
}

// toldFriends takes the least one that is greater than the last, till there is none.
func toldFriends(k kept, self api.ID) []api.ID {
	var l []api.ID
	for {
		var least *api.ID
		for _, x := range k.leads() {
			behind := len(l) == 0 || bytes.Compare(l[len(l)-1][:], x.end[:]) < 0
			if x.end != self && behind && (least == nil || bytes.Compare(x.end[:], least[:]) < 0) {
				least = &x.end
			}
		}
		if least == nil {
			return l
		}
		l = append(l, *least)
	}
}

// toldWants tells who is wanted of some, rising, without self: on the ring laid open at self the first half and the last half.
func toldWants(self api.ID, rising []api.ID, half int, id api.ID) bool {
	var above, below []api.ID
	for _, x := range rising {
		if bytes.Compare(x[:], self[:]) > 0 {
			above = append(above, x)
		} else {
			below = append(below, x)
		}
	}
	laid := append(above, below...)
	half = min(max(half, 0), len(laid))
	return slices.Contains(laid[:half], id) || slices.Contains(laid[len(laid)-half:], id)
}

func toldSpare(k kept, self api.ID, half int) []api.Path {
	var l []api.Path
	friends := toldFriends(k, self)
	for _, x := range k.leads() {
		if !toldWants(self, friends, half, x.end) {
			l = append(l, x.P)
		}
	}
	return l
}

// toldTwins holds each own one against each other own one.
func toldTwins(k kept) []api.Path {
	var l []api.Path
	for _, x := range k.leads() {
		if slices.ContainsFunc(k.leads(), func(y lead) bool { return y.end == x.end && ahead(y.P, x.P) }) {
			l = append(l, x.P)
		}
	}
	return l
}

// toldFirst goes from the last to the first.
func toldFirst(k kept, id api.ID) (api.Entry, bool) {
	var first api.Entry
	there := false
	for _, x := range slices.Backward(k.leads()) {
		if x.end == id {
			first, there = x.Entry, true
		}
	}
	return first, there
}

// tableOf is the table that is told.
func tableOf(t *testing.T, k kept) *table.Table {
	t.Helper()
	if k == nil {
		return nil
	}
	tab := table.New(api.MaxPaths)
	for _, x := range k {
		if e := tab.Add(x); e != api.OK {
			t.Fatalf("Add(%v) = %v", x, e)
		}
	}
	return tab
}

// looks holds a table against what it should have.
func looks(t *testing.T, what string, tab *table.Table, k kept) {
	t.Helper()
	if l := tab.All(); !slices.Equal(l, k.sorted()) || tab.Len() != len(k) {
		t.Fatalf("%s: the table has %v, want %v", what, l, k.sorted())
	}
}

// sameHop holds all fields against each other; lists without elements are the same.
func sameHop(a, b api.Hop) bool {
	for _, f := range []*api.Frame{&a.F, &b.F} {
		if len(f.Trail)+len(f.IDs)+len(f.Item.Value)+len(f.Text) == 0 {
			f.Trail, f.IDs, f.Item.Value, f.Text = nil, nil, nil, nil
		}
	}
	return reflect.DeepEqual(a, b)
}

func same(a, b tear.Torn) bool {
	return slices.EqualFunc(a.Out, b.Out, sameHop) && slices.Equal(a.Lost, b.Lost)
}

// drops, deads and ends hold a call, and the table ahead of it and behind it, against the second telling, and answer what is left.
func drops(t *testing.T, tab *table.Table, k kept, from int, p api.Path) kept {
	t.Helper()
	looks(t, "ahead of Drop", tab, k)
	want, rest := toldDrop(k, from, p)
	if got := tear.Drop(tab, from, p); !same(got, want) {
		t.Fatalf("Drop(%v, %d, %v) = %v, want %v", k, from, p, got, want)
	}
	looks(t, "behind Drop", tab, rest)
	return rest
}

func deads(t *testing.T, tab *table.Table, k kept, n int) kept {
	t.Helper()
	looks(t, "ahead of Dead", tab, k)
	want, rest := toldDead(k, n)
	if got := tear.Dead(tab, n); !same(got, want) {
		t.Fatalf("Dead(%v, %d) = %v, want %v", k, n, got, want)
	}
	looks(t, "behind Dead", tab, rest)
	return rest
}

func ends(t *testing.T, tab *table.Table, k kept, p api.Path) kept {
	t.Helper()
	looks(t, "ahead of End", tab, k)
	want, rest := toldEnd(k, p)
	if got := tear.End(tab, p); !same(got, want) {
		t.Fatalf("End(%v, %v) = %v, want %v", k, p, got, want)
	}
	looks(t, "behind End", tab, rest)
	return rest
}

// tells holds the calls that change nothing against the second telling.
func tells(t *testing.T, tab *table.Table, k kept, ids []api.ID, halves []int) {
	t.Helper()
	looks(t, "ahead of all that is told", tab, k)
	for _, id := range ids {
		if got, want := tear.Friends(tab, id), toldFriends(k, id); !slices.Equal(got, want) {
			t.Fatalf("Friends(%v, %x) = %x, want %x", k, id, got, want)
		}
		x, there := tear.First(tab, id)
		if y, is := toldFirst(k, id); x != y || there != is {
			t.Fatalf("First(%v, %x) = %v, %v, want %v, %v", k, id, x, there, y, is)
		}
		for _, half := range halves {
			if got, want := tear.Spare(tab, id, half), toldSpare(k, id, half); !slices.Equal(got, want) {
				t.Fatalf("Spare(%v, %x, %d) = %v, want %v", k, id, half, got, want)
			}
		}
	}
	if got, want := tear.Twins(tab), toldTwins(k); !slices.Equal(got, want) {
		t.Fatalf("Twins(%v) = %v, want %v", k, got, want)
	}
	looks(t, "behind all that is told", tab, k)
}

// holds asks all seven calls, each that changes something at a table of its own.
func holds(t *testing.T, k kept, from []int, keys []api.Path, ids []api.ID, halves []int) {
	t.Helper()
	tells(t, tableOf(t, k), k, ids, halves)
	for _, p := range keys {
		ends(t, tableOf(t, k), k, p)
		for _, n := range from {
			drops(t, tableOf(t, k), k, n, p)
		}
	}
	for _, n := range from {
		deads(t, tableOf(t, k), k, n)
	}
}

var (
	anna = api.ID{15: 5}
	bert = api.ID{15: 9}
	carl = api.ID{15: 2}
	dora = api.ID{1}
	emil = api.ID{128}
	last = api.ID{255, 255, 255, 255, 255, 255, 255, 255, 255, 255, 255, 255, 255, 255, 255, 255}
)

func key(n int64) api.Path { return api.Path{N: n} }

func entry(n int64, a, b api.ID, na, nb int) api.Entry {
	return api.Entry{P: key(n), A: a, B: b, Na: na, Nb: nb}
}

// to is an own entry that leads to an identity, away from its maker.
func to(n int64, id api.ID, by int) api.Entry { return entry(n, api.ID{15: 77}, id, -1, by) }

// by is an own entry that leads back to its maker.
func by(n int64, id api.ID, by int) api.Entry { return entry(n, id, api.ID{15: 77}, by, -1) }

// over is one in the middle, with both ends known elsewhere.
func over(n int64, na, nb int) api.Entry { return entry(n, anna, bert, na, nb) }

// odd are numbers that are no neighbours.
func odd() []int {
	return []int{-1, -2, 6, 7, 255, 256, 1 << 32, 1<<32 + 1, -1 << 32, math.MaxInt32, math.MinInt32, math.MaxInt, math.MinInt}
}

// forms are all right entries of one key, with these identities as ends and these as sides.
func forms(p api.Path, ids []api.ID, sides []int) []api.Entry {
	var l []api.Entry
	for _, a := range ids {
		for _, b := range ids {
			for _, na := range sides {
				for _, nb := range sides {
					if x := (api.Entry{P: p, A: a, B: b, Na: na, Nb: nb}); table.Right(x) {
						l = append(l, x)
					}
				}
			}
		}
	}
	return l
}

// P15.1, P15.2: the chapter's example.
func TestExample(t *testing.T) {
	tab := tableOf(t, kept{over(1, 0, 2), to(2, bert, 0)})
	if got := tear.Drop(tab, 7, key(1)); !same(got, tear.Torn{}) || tab.Len() != 2 {
		t.Errorf("Drop(7, P 1) = %v, and %d are left", got, tab.Len())
	}
	want := tear.Torn{Out: []api.Hop{dropFor(2, key(1))}, Lost: []api.Path{key(2)}}
	if got := tear.Dead(tab, 0); !same(got, want) || tab.Len() != 0 {
		t.Errorf("Dead(0) = %v, want %v, and %d are left", got, want, tab.Len())
	}
}

// P15.1: all entries that may be, alone in a table, with every side asked.
func TestOneEntry(t *testing.T) {
	sides := []int{-1, 0, 1, 2, 3, 4, 5}
	for _, x := range forms(key(1), []api.ID{anna, bert}, sides) {
		holds(t, kept{x}, append(odd(), sides...), []api.Path{key(1), key(2)}, []api.ID{anna, bert, carl}, []int{-1, 0, 1, 2})
	}
}

// P15.1: all tables of two entries, with few ends and sides.
func TestTwoEntries(t *testing.T) {
	ids := []api.ID{anna, bert, carl}
	sides := []int{-1, 0, 1}
	for _, x := range forms(key(2), ids, sides) {
		for _, y := range forms(key(1), ids, sides) {
			holds(t, kept{x, y}, []int{-1, 0, 1, 2}, []api.Path{key(1), key(2), key(3)}, ids, []int{0, 1, 2})
		}
	}
}

// P15.1: all tables of three and of four entries, of few forms.
func TestFewEntries(t *testing.T) {
	few := func(n int64) []api.Entry {
		return []api.Entry{to(n, bert, 0), to(n, carl, 1), by(n, bert, 0), by(n, anna, 1), to(n, emil, 0), over(n, 0, 1), over(n, 1, 2)}
	}
	keys := []api.Path{key(1), key(2), key(3), key(4), key(5)}
	for _, a := range few(2) {
		for _, b := range few(4) {
			for _, c := range few(1) {
				holds(t, kept{a, b, c}, []int{-1, 0, 1}, keys[:3], []api.ID{anna, bert}, []int{0, 1, 2})
				for _, d := range few(3) {
					k := kept{a, b, c, d}
					tells(t, tableOf(t, k), k, []api.ID{anna, dora}, []int{0, 1, 2})
					deads(t, tableOf(t, k), k, 0)
				}
			}
		}
	}
}

// ask is what is asked, and what is left of which keys.
type ask struct {
	what string
	k    kept
	call func(tab *table.Table) tear.Torn
	want tear.Torn
	left []api.Path
}

func asks(t *testing.T, l []ask) {
	t.Helper()
	for _, a := range l {
		tab := tableOf(t, a.k)
		if got := a.call(tab); !same(got, a.want) {
			t.Errorf("%s: %v, want %v", a.what, got, a.want)
		}
		var left []api.Path
		for _, x := range tab.All() {
			left = append(left, x.P)
			if !slices.Contains(a.k, x) {
				t.Errorf("%s: %v is left, which wasn't there", a.what, x)
			}
		}
		if !slices.Equal(left, a.left) {
			t.Errorf("%s: %v are left, want %v", a.what, left, a.left)
		}
	}
}

func out(l ...api.Hop) tear.Torn { return tear.Torn{Out: l} }

func lost(l ...api.Path) tear.Torn { return tear.Torn{Lost: l} }

// P15.1: Drop, written out.
func TestDropAtEdges(t *testing.T) {
	k := kept{over(1, 0, 2), to(2, bert, 0), by(3, bert, 4), over(4, 2, 5)}
	all := []api.Path{key(1), key(2), key(3), key(4)}
	drop := func(from int, p api.Path) func(*table.Table) tear.Torn {
		return func(tab *table.Table) tear.Torn { return tear.Drop(tab, from, p) }
	}
	l := []ask{
		{"from Na", k, drop(0, key(1)), out(dropFor(2, key(1))), all[1:]},
		{"from Nb", k, drop(2, key(1)), out(dropFor(0, key(1))), all[1:]},
		{"from Na, at the last one", k, drop(2, key(4)), out(dropFor(5, key(4))), all[:3]},
		{"from Nb, at the last one", k, drop(5, key(4)), out(dropFor(2, key(4))), all[:3]},
		{"own, Na -1", k, drop(0, key(2)), lost(key(2)), []api.Path{key(1), key(3), key(4)}},
		{"own, Nb -1", k, drop(4, key(3)), lost(key(3)), []api.Path{key(1), key(2), key(4)}},
		{"from -1, own, Na -1", k, drop(-1, key(2)), tear.Torn{}, all},
		{"from -1, own, Nb -1", k, drop(-1, key(3)), tear.Torn{}, all},
		{"from -1, not own", k, drop(-1, key(1)), tear.Torn{}, all},
		{"from neither", k, drop(5, key(1)), tear.Torn{}, all},
		{"from one that isn't among places", k, drop(6, key(1)), tear.Torn{}, all},
		{"a key that isn't there", k, drop(0, key(5)), tear.Torn{}, all},
		{"a key of another maker", k, drop(0, api.Path{Who: anna, N: 1}), tear.Torn{}, all},
		{"the zero key", k, drop(0, api.Path{}), tear.Torn{}, all},
		{"a nil table", nil, drop(0, key(1)), tear.Torn{}, nil},
		{"an empty table", kept{}, drop(0, key(1)), tear.Torn{}, nil},
		{"an empty table, from 0, the zero key", kept{}, drop(0, api.Path{}), tear.Torn{}, nil},
	}
	asks(t, l)
}

// P15.1, P15.2: Dead, written out.
func TestDeadAtEdges(t *testing.T) {
	k := kept{by(5, bert, 0), over(4, 1, 2), over(3, 2, 0), to(2, bert, 0), over(1, 0, 5)}
	all := []api.Path{key(1), key(2), key(3), key(4), key(5)}
	dead := func(n int) func(*table.Table) tear.Torn {
		return func(tab *table.Table) tear.Torn { return tear.Dead(tab, n) }
	}
	some := tear.Torn{Out: []api.Hop{dropFor(5, key(1)), dropFor(2, key(3))}, Lost: []api.Path{key(2), key(5)}}
	whole := kept{over(3, 1, 4), over(1, 4, 2), to(2, anna, 4)}
	l := []ask{
		{"some go over it", k, dead(0), some, []api.Path{key(4)}},
		{"one goes over it, by Na", k, dead(1), out(dropFor(2, key(4))), []api.Path{key(1), key(2), key(3), key(5)}},
		{"one goes over it, by Nb", k, dead(5), out(dropFor(0, key(1))), all[1:]},
		{"two go over it", k, dead(2), out(dropFor(0, key(3)), dropFor(1, key(4))), []api.Path{key(1), key(2), key(5)}},
		{"none goes over it", k, dead(3), tear.Torn{}, all},
		{"all go over it", whole, dead(4), tear.Torn{Out: []api.Hop{dropFor(2, key(1)), dropFor(1, key(3))}, Lost: []api.Path{key(2)}}, nil},
		{"-1", k, dead(-1), tear.Torn{}, all},
		{"-1, where all are own", kept{to(1, bert, 0), by(2, bert, 0)}, dead(-1), tear.Torn{}, all[:2]},
		{"the least number", k, dead(math.MinInt), tear.Torn{}, all},
		{"the greatest number", k, dead(math.MaxInt), tear.Torn{}, all},
		{"a nil table", nil, dead(0), tear.Torn{}, nil},
		{"an empty table", kept{}, dead(0), tear.Torn{}, nil},
	}
	asks(t, l)
}

// P15.1: End, written out: of an own path the node itself is one side, and the other one is told.
func TestEndAtEdges(t *testing.T) {
	k := kept{over(1, 0, 2), to(2, bert, 0), by(3, bert, 4), over(4, 2, 5)}
	all := []api.Path{key(1), key(2), key(3), key(4)}
	end := func(p api.Path) func(*table.Table) tear.Torn {
		return func(tab *table.Table) tear.Torn { return tear.End(tab, p) }
	}
	both := func(n int, p api.Path) tear.Torn {
		return tear.Torn{Out: []api.Hop{dropFor(n, p)}, Lost: []api.Path{p}}
	}
	l := []ask{
		{"own, Na -1", k, end(key(2)), both(0, key(2)), []api.Path{key(1), key(3), key(4)}},
		{"own, Nb -1", k, end(key(3)), both(4, key(3)), []api.Path{key(1), key(2), key(4)}},
		{"not own", k, end(key(1)), tear.Torn{}, all},
		{"not own, the last one", k, end(key(4)), tear.Torn{}, all},
		{"a key that isn't there", k, end(key(9)), tear.Torn{}, all},
		{"a key of another maker", k, end(api.Path{Who: anna, N: 2}), tear.Torn{}, all},
		{"the zero key", k, end(api.Path{}), tear.Torn{}, all},
		{"a nil table", nil, end(key(1)), tear.Torn{}, nil},
		{"an empty table", kept{}, end(key(1)), tear.Torn{}, nil},
		{"an empty table, the zero key", kept{}, end(api.Path{}), tear.Torn{}, nil},
	}
	asks(t, l)
}

// P15.1: Friends, written out.
func TestFriendsAtEdges(t *testing.T) {
	for _, c := range []struct {
		what string
		k    kept
		self api.ID
		want []api.ID
	}{
		{"a nil table", nil, anna, nil},
		{"an empty table", kept{}, anna, nil},
		{"none is own", kept{over(1, 0, 1), over(2, 1, 0)}, carl, nil},
		{"one, at B", kept{to(1, bert, 0)}, anna, []api.ID{bert}},
		{"one, at A", kept{by(1, bert, 0)}, anna, []api.ID{bert}},
		{"rising, whatever the keys", kept{to(1, last, 0), by(2, dora, 1), to(3, carl, 2), by(4, emil, 3), to(5, api.ID{}, 4)}, anna, []api.ID{{}, carl, dora, emil, last}},
		{"several lead to one", kept{to(1, bert, 0), by(2, bert, 1), to(3, carl, 0), to(4, bert, 2)}, anna, []api.ID{carl, bert}},
		{"its own identity among the ends", kept{to(1, anna, 0), by(2, carl, 1), by(3, anna, 2)}, anna, []api.ID{carl}},
		{"its own identity alone", kept{to(1, anna, 0)}, anna, nil},
		{"another self", kept{to(1, anna, 0)}, bert, []api.ID{anna}},
		{"the maker is none, though it is self's", kept{entry(1, anna, bert, -1, 0)}, anna, []api.ID{bert}},
		{"others beside them", kept{over(1, 0, 1), to(2, carl, 0), entry(3, dora, emil, 4, 5)}, last, []api.ID{carl}},
	} {
		if got := tear.Friends(tableOf(t, c.k), c.self); !slices.Equal(got, c.want) {
			t.Errorf("%s: %x, want %x", c.what, got, c.want)
		}
	}
}

// keysOf are keys of small numbers.
func keysOf(l ...int64) []api.Path {
	var keys []api.Path
	for _, n := range l {
		keys = append(keys, key(n))
	}
	return keys
}

// P15.1: Spare, written out: around 5 stand 2 and 9, and behind them the greater ones.
func TestSpareAtEdges(t *testing.T) {
	four := kept{to(4, carl, 0), by(3, bert, 1), to(2, dora, 2), by(1, emil, 3)}
	mixed := append(kept{over(9, 0, 1), to(8, bert, 5), to(7, anna, 4), by(6, dora, 1)}, four...)
	for _, c := range []struct {
		what string
		k    kept
		self api.ID
		half int
		want []api.Path
	}{
		{"a nil table", nil, anna, 1, nil},
		{"an empty table", kept{}, anna, 0, nil},
		{"none is own", kept{over(1, 0, 1)}, anna, 0, nil},
		{"half 0", four, anna, 0, keysOf(1, 2, 3, 4)},
		{"half below 0", four, anna, -1, keysOf(1, 2, 3, 4)},
		{"the least half", four, anna, math.MinInt, keysOf(1, 2, 3, 4)},
		{"half 1", four, anna, 1, keysOf(1, 2)},
		{"half 1, of another self, behind the greatest one", four, last, 1, keysOf(2, 3)},
		{"half 1, of another self, that is a friend", four, dora, 1, keysOf(2, 4)},
		{"half 2", four, anna, 2, nil},
		{"half greater than the friends", four, anna, 5, nil},
		{"the greatest half", four, anna, math.MaxInt, nil},
		{"others beside them, several to one, and its own identity", mixed, anna, 1, keysOf(1, 2, 6, 7)},
		{"its own identity is never wanted", mixed, anna, 9, keysOf(7)},
		{"half 0, with others beside them", mixed, anna, 0, keysOf(1, 2, 3, 4, 6, 7, 8)},
	} {
		if got := tear.Spare(tableOf(t, c.k), c.self, c.half); !slices.Equal(got, c.want) {
			t.Errorf("%s: %v, want %v", c.what, got, c.want)
		}
	}
}

// P15.1: Twins and First, written out; First is that of bert.
func TestTwinsAndFirstAtEdges(t *testing.T) {
	for _, c := range []struct {
		what  string
		k     kept
		twins []api.Path
		first api.Path
		there bool
	}{
		{"a nil table", nil, nil, api.Path{}, false},
		{"an empty table", kept{}, nil, api.Path{}, false},
		{"none is own", kept{over(1, 0, 1), over(2, 0, 1)}, nil, api.Path{}, false},
		{"one, at B", kept{to(1, bert, 0)}, nil, key(1), true},
		{"one, at A", kept{by(1, bert, 0)}, nil, key(1), true},
		{"none to that end", kept{to(1, carl, 0), by(2, carl, 0)}, keysOf(2), api.Path{}, false},
		{"two, both at B", kept{to(2, bert, 0), to(1, bert, 3)}, keysOf(2), key(1), true},
		{"two, both at A", kept{by(1, bert, 0), by(2, bert, 3)}, keysOf(2), key(1), true},
		{"two, at A and at B", kept{by(2, bert, 0), to(1, bert, 0)}, keysOf(2), key(1), true},
		{"two, at B and at A", kept{to(2, bert, 0), by(1, bert, 0)}, keysOf(2), key(1), true},
		{"three, with others between", kept{to(7, bert, 0), by(5, bert, 1), to(6, carl, 0), over(4, 1, 2), by(3, bert, 0)}, keysOf(5, 7), key(3), true},
		{"three and two", kept{to(1, carl, 0), to(2, bert, 0), by(3, carl, 0), by(4, bert, 1), to(5, carl, 2)}, keysOf(3, 4, 5), key(2), true},
		{"others with that end are no twins", kept{over(1, 0, 1), to(2, bert, 0), over(3, 0, 1)}, nil, key(2), true},
		{"the same makers, other ends", kept{entry(1, bert, carl, -1, 0), entry(2, bert, dora, -1, 0)}, nil, api.Path{}, false},
	} {
		tab := tableOf(t, c.k)
		if got := tear.Twins(tab); !slices.Equal(got, c.twins) {
			t.Errorf("%s: twins %v, want %v", c.what, got, c.twins)
		}
		want, _ := tab.Get(c.first)
		if x, there := tear.First(tab, bert); x != want || there != c.there {
			t.Errorf("%s: first %v, %v, want %v, %v", c.what, x, there, want, c.there)
		}
	}
}

// P15.1: First is asked by what is nobody's, and by the zero identity.
func TestFirstOfZero(t *testing.T) {
	if x, there := tear.First(tableOf(t, kept{to(1, bert, 0), over(2, 0, 1)}), api.ID{}); x != (api.Entry{}) || there {
		t.Errorf("First = %v, %v", x, there)
	}
	want := to(1, api.ID{}, 0)
	if x, there := tear.First(tableOf(t, kept{want}), api.ID{}); x != want || !there {
		t.Errorf("First = %v, %v", x, there)
	}
}

// P15.1: keys at which a sign, a width or a byte's place could be mistaken; in order they are by Who, then by N.
func TestKeysAtEdges(t *testing.T) {
	var k kept
	for _, who := range []api.ID{last, {1}, {15: 1}, {}, {127}, {128}} {
		for _, n := range []int64{math.MaxInt64, 1 << 32, 1, 0, -1, math.MinInt64, 7, 7 + 1<<32} {
			k = append(k, api.Entry{P: api.Path{Who: who, N: n}, A: anna, B: bert, Na: -1, Nb: len(k) % 6})
		}
	}
	var keys []api.Path
	for i, x := range k {
		keys = append(keys, x.P)
		switch i % 3 {
		case 1:
			k[i].Na, k[i].Nb = x.Nb, -1
		case 2:
			k[i].Na = (x.Nb + 1) % 6
		}
	}
	holds(t, k, []int{-1, 0, 1, 2, 3, 4, 5}, keys, []api.ID{anna, bert, carl}, []int{0, 1})
}

// drawn are entries and what is asked of them.
type drawn struct {
	*rand.Rand
	ids []api.ID
}

// draw has so many identities: those written out, and such as differ from one another in one byte or in all.
func draw(seed int64, many int) drawn {
	r := drawn{Rand: rand.New(rand.NewSource(seed)), ids: []api.ID{anna, bert, carl, dora, emil, last, {}}}
	for len(r.ids) < many {
		id := r.ids[r.Intn(len(r.ids))]
		id[r.Intn(len(id))] = byte(r.Intn(256))
		if r.Intn(2) == 0 {
			r.Read(id[:])
		}
		r.ids = append(r.ids, id)
	}
	r.ids = r.ids[:many]
	return r
}

func (r drawn) id() api.ID { return r.ids[r.Intn(len(r.ids))] }

func (r drawn) key() api.Path { return api.Path{Who: r.id(), N: int64(r.Intn(40)) - 3} }

// side is -1 more often than one of the others.
func (r drawn) side() int { return max(r.Intn(9)-3, -1) }

func (r drawn) entry() api.Entry {
	for {
		x := api.Entry{P: r.key(), A: r.id(), B: r.id(), Na: r.side(), Nb: r.side()}
		if table.Right(x) {
			return x
		}
	}
}

// kept is so many entries, each with a key of its own.
func (r drawn) kept(many int) kept {
	k := kept{}
	for len(k) < many {
		if x := r.entry(); !slices.ContainsFunc(k, func(y api.Entry) bool { return y.P == x.P }) {
			k = append(k, x)
		}
	}
	return k
}

// from is most often a neighbour.
func (r drawn) from() int {
	if r.Intn(8) == 0 {
		return odd()[r.Intn(len(odd()))]
	}
	return r.Intn(api.MaxNodes)
}

// one is most often a key that is there.
func (r drawn) one(k kept) api.Path {
	if len(k) == 0 || r.Intn(8) == 0 {
		return r.key()
	}
	return k[r.Intn(len(k))].P
}

// P15.1: tables of up to MaxPaths entries, drawn, each asked all.
func TestDrawnTables(t *testing.T) {
	for _, many := range []int{2, 3, 5, 20, 100} {
		r := draw(int64(15+many), many)
		for range 12 {
			k := r.kept(1 + r.Intn(min(api.MaxPaths, many*many*8)))
			keys := []api.Path{r.one(k), r.one(k), r.one(k), r.key()}
			holds(t, k, []int{-1, 0, 1, 2, 3, 4, 5, 6}, keys, []api.ID{r.id(), r.id(), r.id(), {7: 7}}, []int{-1, 0, 1, 2, 3, 10, 63, 64, 128})
		}
	}
}

// P15.1, P15.2: rows of calls, one behind the other, at one table, into which entries come now and then.
func TestRowsOfCalls(t *testing.T) {
	for seed := range int64(60) {
		r := draw(seed, 2+int(seed)%9)
		k := r.kept(r.Intn(40))
		tab := tableOf(t, k)
		for range 80 {
			switch r.Intn(9) {
			case 0:
				k = deads(t, tab, k, r.from())
			case 1, 2:
				k = ends(t, tab, k, r.one(k))
			case 3, 4:
				k = drops(t, tab, k, r.from(), r.one(k))
			case 5:
				tells(t, tab, k, []api.ID{r.id(), r.id()}, []int{0, 1, 2, 3})
			default:
				if x := r.entry(); tab.Add(x) == api.OK {
					k = append(k, x)
				}
			}
		}
	}
}
