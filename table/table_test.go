package table_test

import (
	"bytes"
	"math"
	"math/rand"
	"slices"
	"testing"

	"annulet/api"
	"annulet/table"
)

// What the chapter says of a table, told a second time: a list of what was taken, in the order in which it came, looked through one by one; a list that is answered takes the least one that is left, till none is.

// told is how many there may be, and what was taken and isn't removed.
type told struct {
	room int
	has  []api.Entry
}

// toldNew has as many places as there are numbers from 1 on that are neither above most nor above MaxPaths.
func toldNew(most int) *told {
	m := &told{}
	for n := 1; n <= most && n <= 128; n++ {
		m.room++
	}
	return m
}

func toldLess(a, b api.Path) bool {
	by := bytes.Compare(a.Who[:], b.Who[:])
	return by < 0 || by == 0 && a.N < b.N
}

// toldRight looks for each neighbour among those that may be.
func toldRight(x api.Entry) bool {
	may := []int{-1, 0, 1, 2, 3, 4, 5}
	if bytes.Equal(x.A[:], x.B[:]) || x.Na == x.Nb {
		return false
	}
	return slices.Contains(may, x.Na) && slices.Contains(may, x.Nb)
}

func toldOther(x api.Entry) (id api.ID, n int, isA bool) {
	switch x.Na {
	case -1:
		id, n = x.B, x.Nb
	default:
		id, n, isA = x.A, x.Na, true
	}
	return id, n, isA
}

func (m *told) place(p api.Path) int {
	for i, x := range m.has {
		if !toldLess(x.P, p) && !toldLess(p, x.P) {
			return i
		}
	}
	return -1
}

func (m *told) Add(x api.Entry) api.Errno {
	switch {
	case !toldRight(x):
		return api.ErrArg
	case m.place(x.P) >= 0:
		return api.ErrThere
	case len(m.has) == m.room:
		return api.ErrFull
	}
	m.has = append(m.has, x)
	return api.OK
}

func (m *told) Get(p api.Path) (api.Entry, bool) {
	if at := m.place(p); at >= 0 {
		return m.has[at], true
	}
	return api.Entry{}, false
}

func (m *told) Remove(p api.Path) (api.Entry, bool) {
	x, there := m.Get(p)
	if there {
		at := m.place(p)
		m.has = append(slices.Clone(m.has[:at]), m.has[at+1:]...)
	}
	return x, there
}

// byKeys takes the least one that is left, till none is.
func byKeys(l []api.Entry) []api.Entry {
	var out []api.Entry
	l = slices.Clone(l)
	for len(l) > 0 {
		least := 0
		for i := range l {
			if toldLess(l[i].P, l[least].P) {
				least = i
			}
		}
		out = append(out, l[least])
		l = slices.Delete(l, least, least+1)
	}
	return out
}

// with are those of a list at which one of two numbers, or of two identities, is the one that is asked for.
func with[T comparable](l []api.Entry, asked T, both func(x api.Entry) (T, T)) []api.Entry {
	var out []api.Entry
	for _, x := range l {
		if a, b := both(x); a == asked || b == asked {
			out = append(out, x)
		}
	}
	return out
}

func sides(x api.Entry) (int, int) { return x.Na, x.Nb }

func ends(x api.Entry) (api.ID, api.ID) { return x.A, x.B }

func toldVia(all []api.Entry, n int) []api.Entry {
	if n < 0 {
		return nil
	}
	return with(all, n, sides)
}

// same tells whether two lists hold the same; one without elements may be nil or empty.
func same(a, b []api.Entry) bool { return slices.Equal(a, b) }

// looks holds the lists of a table, and how many it has, against what it should have.
func looks(t *testing.T, what string, tab *table.Table, has []api.Entry) {
	t.Helper()
	all := byKeys(has)
	if n := tab.Len(); n != len(all) {
		t.Fatalf("%s: Len() = %d, want %d", what, n, len(all))
	}
	if l := tab.All(); !same(l, all) {
		t.Fatalf("%s: All() = %v, want %v", what, l, all)
	}
	if l, want := tab.Own(), with(all, -1, sides); !same(l, want) {
		t.Fatalf("%s: Own() = %v, want %v", what, l, want)
	}
	for _, n := range []int{-1, 0, 1, 2, 3, 4, 5} {
		if l, want := tab.Via(n), toldVia(all, n); !same(l, want) {
			t.Fatalf("%s: Via(%d) = %v, want %v", what, n, l, want)
		}
	}
	for _, id := range someIDs() {
		if l, want := tab.To(id), with(all, id, ends); !same(l, want) {
			t.Fatalf("%s: To(%x) = %v, want %v", what, id, l, want)
		}
	}
}

// gets holds what a table has of each of some keys against its second telling.
func gets(t *testing.T, what string, tab *table.Table, m *told, keys []api.Path) {
	t.Helper()
	for _, p := range keys {
		got, there := tab.Get(p)
		if want, is := m.Get(p); got != want || there != is {
			t.Fatalf("%s: Get(%v) = %v, %v, want %v, %v", what, p, got, there, want, is)
		}
	}
}

// ask is one call that may change something.
type ask struct {
	what string // Add, Remove
	x    api.Entry
}

// do asks a table and its second telling the same, and holds the answers against each other.
func do(t *testing.T, tab *table.Table, m *told, a ask) {
	t.Helper()
	switch a.what {
	case "Add":
		if got, want := tab.Add(a.x), m.Add(a.x); got != want {
			t.Fatalf("Add(%v) = %v, want %v, of %d in %d", a.x, got, want, len(m.has), m.room)
		}
	case "Remove":
		got, there := tab.Remove(a.x.P)
		if want, is := m.Remove(a.x.P); got != want || there != is {
			t.Fatalf("Remove(%v) = %v, %v, want %v, %v", a.x.P, got, there, want, is)
		}
	}
}

// someIDs are few identities, that differ in the highest or in the lowest byte alone.
func someIDs() []api.ID {
	return []api.ID{{}, {1}, {15: 1}, {128}, {1, 15: 1}}
}

// byteIDs differ from nought in one byte alone, each by 1, by the sign's bit, and by all bits.
func byteIDs() []api.ID {
	l := []api.ID{{}}
	for i := range api.Size {
		for _, b := range []byte{1, 127, 128, 255} {
			var id api.ID
			id[i] = b
			l = append(l, id)
		}
	}
	return l
}

// longs are numbers of paths at which a sign or a width could be mistaken.
func longs() []int64 {
	return []int64{0, 1, -1, 2, -2, math.MaxInt32, math.MinInt32, 1 << 32, -1 << 32, 1<<32 + 1, math.MaxInt64, math.MaxInt64 - 1, math.MinInt64, math.MinInt64 + 1}
}

// places are neighbours, and numbers that are none.
func places() []int {
	return []int{-1, 0, 1, 2, 3, 4, 5, 6, 7, -2, -3, 255, 256, 1<<32 - 1, 1 << 32, 1<<32 + 2, -1 << 32, math.MaxInt32, math.MinInt32, math.MaxInt, math.MaxInt - 1, math.MinInt, math.MinInt + 1}
}

// forms are entries of one key, of every form: all two numbers as neighbours, ends that are the same and that differ in the highest or in the lowest byte.
func forms(p api.Path) []api.Entry {
	var l []api.Entry
	for _, na := range places() {
		for _, nb := range places() {
			for _, a := range someIDs() {
				for _, b := range someIDs() {
					l = append(l, api.Entry{P: p, A: a, B: b, Na: na, Nb: nb})
				}
			}
		}
	}
	return l
}

// key is a path's key with a small number.
func key(n int64) api.Path { return api.Path{N: n} }

// entry is one that is right, with ends 1 and 2.
func entry(p api.Path, na, nb int) api.Entry {
	return api.Entry{P: p, A: api.ID{15: 1}, B: api.ID{15: 2}, Na: na, Nb: nb}
}

// filled is a table with room for so many, and as many in it, with keys from 0 on.
func filled(t *testing.T, most, n int) *table.Table {
	t.Helper()
	tab := table.New(most)
	for i := range n {
		if e := tab.Add(entry(key(int64(i)), -1, i%6)); e != api.OK {
			t.Fatalf("Add of number %d of %d answers %v", i, n, e)
		}
	}
	return tab
}

// P12.1: the chapter's example.
func TestExample(t *testing.T) {
	tab := table.New(1)
	x := entry(key(1), -1, 2)
	if e := tab.Add(x); e != api.OK {
		t.Error("Add answers", e)
	}
	if e := tab.Add(x); e != api.ErrThere {
		t.Error("Add of the same answers", e)
	}
	if e := tab.Add(entry(key(2), -1, 2)); e != api.ErrFull {
		t.Error("Add of another key answers", e)
	}
	if l := tab.Via(2); !same(l, []api.Entry{x}) {
		t.Error("Via(2) answers", l)
	}
	if l := tab.Via(-1); len(l) != 0 {
		t.Error("Via(-1) answers", l)
	}
	looks(t, "the example", tab, []api.Entry{x})
}

// P12.1: Less of any two keys: by Who as numbers, the highest byte first, then by N with its sign.
func TestLessOfTwo(t *testing.T) {
	var l []api.Path
	for _, id := range append(byteIDs(), someIDs()...) {
		for _, n := range longs() {
			l = append(l, api.Path{Who: id, N: n})
		}
	}
	for _, a := range l {
		for _, b := range l {
			if got := table.Less(a, b); got != toldLess(a, b) {
				t.Fatalf("Less(%v, %v) = %v", a, b, got)
			}
		}
	}
}

// P12.1: Less is an order: of two unlike keys just one is ahead, none is ahead of itself, and what is ahead of one is ahead of what that one is ahead of.
func TestLessOfThree(t *testing.T) {
	r := rand.New(rand.NewSource(12))
	var l []api.Path
	for range 60 {
		ids := byteIDs()
		l = append(l, api.Path{Who: ids[r.Intn(len(ids))], N: longs()[r.Intn(len(longs()))]})
	}
	for _, a := range l {
		for _, b := range l {
			ab, ba := table.Less(a, b), table.Less(b, a)
			if ab && ba || ab == ba && a != b {
				t.Fatalf("%v and %v: %v, %v", a, b, ab, ba)
			}
			for _, c := range l {
				if ab && table.Less(b, c) && !table.Less(a, c) {
					t.Fatalf("%v, %v, %v: each ahead of the next, the first not ahead of the last", a, b, c)
				}
			}
		}
	}
}

// P12.1: Less, written out.
func TestLessAtEdges(t *testing.T) {
	high, low := api.ID{1}, api.ID{15: 1}
	for _, c := range []struct {
		a, b api.Path
		want bool
	}{
		{api.Path{}, api.Path{}, false},
		{key(1), key(2), true},
		{key(2), key(1), false},
		{key(-1), key(0), true},
		{key(math.MinInt64), key(math.MaxInt64), true},
		{key(math.MaxInt64), key(math.MinInt64), false},
		{api.Path{Who: low, N: 9}, api.Path{Who: high, N: 1}, true},
		{api.Path{Who: high, N: 1}, api.Path{Who: low, N: 9}, false},
		{api.Path{N: math.MaxInt64}, api.Path{Who: low, N: math.MinInt64}, true},
		{api.Path{Who: api.ID{127}}, api.Path{Who: api.ID{128}}, true},
		{api.Path{Who: api.ID{128}}, api.Path{Who: api.ID{127, 255}}, false},
		{api.Path{Who: api.ID{15: 127}}, api.Path{Who: api.ID{15: 128}}, true},
		{api.Path{Who: high, N: 3}, api.Path{Who: high, N: 4}, true},
		{api.Path{Who: high, N: 4}, api.Path{Who: high, N: 4}, false},
	} {
		if got := table.Less(c.a, c.b); got != c.want {
			t.Errorf("Less(%v, %v) = %v", c.a, c.b, got)
		}
	}
}

// P12.1: Right and Other of entries of every form, whatever key they have.
func TestForms(t *testing.T) {
	for _, p := range []api.Path{{}, {Who: api.ID{1}, N: -1}, {Who: api.ID{15: 1}, N: math.MinInt64}} {
		for _, x := range forms(p) {
			if got := table.Right(x); got != toldRight(x) {
				t.Fatalf("Right(%v) = %v", x, got)
			}
			id, n, isA := table.Other(x)
			if wantID, want, is := toldOther(x); id != wantID || n != want || isA != is {
				t.Fatalf("Other(%v) = %x, %d, %v, want %x, %d, %v", x, id, n, isA, wantID, want, is)
			}
		}
	}
}

// P12.1: Right, written out.
func TestRightAtEdges(t *testing.T) {
	for _, c := range []struct {
		na, nb int
		want   bool
	}{
		{-1, 0, true}, {0, -1, true}, {-1, 5, true}, {5, -1, true}, {0, 5, true}, {5, 0, true}, {2, 3, true},
		{-1, -1, false}, {0, 0, false}, {5, 5, false},
		{-1, 6, false}, {6, -1, false}, {0, 6, false}, {6, 0, false}, {6, 7, false},
		{-2, 0, false}, {0, -2, false}, {-2, -1, false}, {-1, -2, false}, {-2, -3, false},
		{math.MinInt, 0, false}, {0, math.MaxInt, false}, {1 << 32, 1, false}, {1, 1<<32 - 1, false},
	} {
		x := entry(key(1), c.na, c.nb)
		if got := table.Right(x); got != c.want {
			t.Errorf("Right with %d, %d = %v", c.na, c.nb, got)
		}
		x.A = x.B
		if table.Right(x) {
			t.Errorf("Right with %d, %d and the same end twice", c.na, c.nb)
		}
	}
	for _, b := range byteIDs()[1:] {
		if !table.Right(api.Entry{B: b, Nb: 1}) || !table.Right(api.Entry{A: b, Nb: 1}) || table.Right(api.Entry{A: b, B: b, Nb: 1}) {
			t.Errorf("Right with the ends %x and nought", b)
		}
	}
}

// P12.1: Other, written out: own entries of both sides, such as aren't own, and such as aren't right.
func TestOtherAtEdges(t *testing.T) {
	a, b := api.ID{15: 1}, api.ID{15: 2}
	for _, c := range []struct {
		na, nb int
		id     api.ID
		n      int
		isA    bool
	}{
		{-1, 0, b, 0, false}, {-1, 5, b, 5, false}, {0, -1, a, 0, true}, {5, -1, a, 5, true},
		{2, 3, a, 2, true}, {3, 2, a, 3, true}, {4, 4, a, 4, true},
		{-1, -1, b, -1, false}, {-2, -1, a, -2, true}, {-1, -2, b, -2, false}, {6, -1, a, 6, true},
		{math.MinInt, 0, a, math.MinInt, true}, {-1, math.MaxInt, b, math.MaxInt, false},
	} {
		id, n, isA := table.Other(entry(key(1), c.na, c.nb))
		if id != c.id || n != c.n || isA != c.isA {
			t.Errorf("Other with %d, %d = %x, %d, %v", c.na, c.nb, id, n, isA)
		}
	}
}

// P12.1: every form is added to an empty table, to one that has its key, and to a full one: the error that is named first is answered, and nothing changed.
func TestAddForms(t *testing.T) {
	full, there := filled(t, 1, 1), filled(t, 2, 1)
	was := []api.Entry{entry(key(0), -1, 0)}
	for _, x := range forms(key(7)) {
		tab, m := table.New(1), toldNew(1)
		do(t, tab, m, ask{"Add", x})
		if l := tab.All(); !same(l, m.has) {
			t.Fatalf("Add(%v) to none: %v, want %v", x, l, m.has)
		}
		again := x
		again.P = key(0)
		for what, c := range map[string]struct {
			tab  *table.Table
			x    api.Entry
			want api.Errno
		}{
			"full":                    {full, x, api.ErrFull},
			"key that is there":       {there, again, api.ErrThere},
			"key that is there, full": {full, again, api.ErrThere},
			"nil":                     {nil, x, api.ErrArg},
			"room for 0":              {table.New(0), x, api.ErrFull},
			"room for less than 0":    {table.New(-1), x, api.ErrFull},
		} {
			if !toldRight(c.x) {
				c.want = api.ErrArg
			}
			if e := c.tab.Add(c.x); e != c.want {
				t.Fatalf("%s: Add(%v) = %v, want %v", what, c.x, e, c.want)
			}
		}
	}
	looks(t, "full", full, was)
	looks(t, "there", there, was)
}

// P12.1, P12.2: every number of entries that there may be room for.
func TestRoom(t *testing.T) {
	mosts := []int{math.MinInt, math.MinInt + 1, math.MinInt32, -1 << 32, 1<<32 + 1, -128, math.MaxInt32, math.MaxInt - 1, math.MaxInt, 255, 256, 257}
	for n := -5; n <= 140; n++ {
		mosts = append(mosts, n)
	}
	for _, most := range mosts {
		tab, m := table.New(most), toldNew(most)
		if tab == nil {
			t.Fatalf("New(%d) = nil", most)
		}
		looks(t, "new", tab, nil)
		for i := range 200 {
			x := entry(key(int64(i)), i%6, -1)
			do(t, tab, m, ask{"Add", x})
			if want := min(i+1, max(most, 0), 128); tab.Len() != want {
				t.Fatalf("New(%d), behind %d: Len() = %d, want %d", most, i+1, tab.Len(), want)
			}
		}
		looks(t, "filled", tab, m.has)
		if most <= 0 {
			continue
		}
		// Where one is removed just one has room again.
		do(t, tab, m, ask{"Remove", entry(key(0), 0, 0)})
		do(t, tab, m, ask{"Add", entry(key(500), 1, 2)})
		do(t, tab, m, ask{"Add", entry(key(501), 1, 2)})
		looks(t, "filled again", tab, m.has)
	}
}

// P12.1, R6: a full table, by hand: a key that is there, one that isn't, entries that aren't right, and none of them changes what is there.
func TestFull(t *testing.T) {
	for _, most := range []int{1, 2, 127, 128} {
		tab := filled(t, most, most)
		was := tab.All()
		for i := range most {
			other := entry(key(int64(i)), 3, 4)
			other.A, other.B = api.ID{9}, api.ID{8}
			if e := tab.Add(other); e != api.ErrThere {
				t.Errorf("room for %d: Add of the key %d answers %v", most, i, e)
			}
			if e := tab.Add(entry(key(int64(i)), 3, 3)); e != api.ErrArg {
				t.Errorf("room for %d: Add of the key %d, not right, answers %v", most, i, e)
			}
		}
		for _, n := range []int64{-1, int64(most), math.MaxInt64, math.MinInt64} {
			if e := tab.Add(entry(key(n), 3, 4)); e != api.ErrFull {
				t.Errorf("room for %d: Add of the key %d answers %v", most, n, e)
			}
			if e := tab.Add(entry(key(n), -2, 4)); e != api.ErrArg {
				t.Errorf("room for %d: Add of the key %d, not right, answers %v", most, n, e)
			}
			if x, there := tab.Remove(key(n)); x != (api.Entry{}) || there {
				t.Errorf("room for %d: Remove of the key %d answers %v, %v", most, n, x, there)
			}
		}
		looks(t, "full", tab, was)
	}
}

// P12.1: Remove, and what comes behind it: it is gone, the second time there is nothing, and its key may be added anew, as another entry.
func TestRemove(t *testing.T) {
	tab := filled(t, 3, 3)
	x := entry(key(1), -1, 1)
	if got, there := tab.Remove(key(1)); got != x || !there {
		t.Fatal("Remove answers", got, there)
	}
	rest := []api.Entry{entry(key(0), -1, 0), entry(key(2), -1, 2)}
	looks(t, "removed", tab, rest)
	for range 2 {
		if got, there := tab.Remove(key(1)); got != (api.Entry{}) || there {
			t.Fatal("Remove of what is gone answers", got, there)
		}
		if got, there := tab.Get(key(1)); got != (api.Entry{}) || there {
			t.Fatal("Get of what is gone answers", got, there)
		}
		looks(t, "removed twice", tab, rest)
	}
	anew := api.Entry{P: key(1), A: api.ID{1}, B: api.ID{128}, Na: 5, Nb: 3}
	if e := tab.Add(anew); e != api.OK {
		t.Fatal("Add behind Remove answers", e)
	}
	looks(t, "added anew", tab, append(rest, anew))
	if got, there := tab.Get(key(1)); got != anew || !there {
		t.Fatal("Get of what was added anew answers", got, there)
	}
	if e := tab.Add(x); e != api.ErrThere {
		t.Fatal("Add of what stood there once answers", e)
	}
	for _, y := range append(rest, anew) {
		if got, there := tab.Remove(y.P); got != y || !there {
			t.Fatal("Remove answers", got, there)
		}
	}
	looks(t, "all removed", tab, nil)
}

// P12.1: keys that differ in little are other keys: in N alone, in Who alone, in the highest and in the lowest byte of it.
func TestKeysApart(t *testing.T) {
	var keys []api.Path
	for _, id := range byteIDs() {
		keys = append(keys, api.Path{Who: id}, api.Path{Who: id, N: 1})
	}
	for _, n := range longs()[2:] {
		keys = append(keys, key(n))
	}
	for _, p := range keys {
		tab, m := table.New(3), toldNew(3)
		do(t, tab, m, ask{"Add", entry(p, 2, 3)})
		gets(t, "one key", tab, m, keys)
		for _, q := range keys {
			do(t, tab, m, ask{"Add", entry(q, 4, 5)})
			gets(t, "two keys", tab, m, []api.Path{p, q})
			looks(t, "two keys", tab, m.has)
			if q != p {
				do(t, tab, m, ask{"Remove", entry(q, 0, 0)})
			}
		}
		if got, there := tab.Get(p); got != entry(p, 2, 3) || !there {
			t.Fatalf("Get(%v) answers %v, %v", p, got, there)
		}
	}
}

// P12.1: the ends and the key's maker are nothing to each other: entries of one key can't both be, whatever their ends, and To doesn't look at keys.
func TestEndsAreNoKeys(t *testing.T) {
	a, b, who := api.ID{1}, api.ID{2}, api.ID{3}
	x := api.Entry{P: api.Path{Who: who, N: 1}, A: a, B: b, Na: 0, Nb: 1}
	tab := table.New(5)
	if e := tab.Add(x); e != api.OK {
		t.Fatal("Add answers", e)
	}
	y := api.Entry{P: x.P, A: b, B: a, Na: 2, Nb: 3}
	if e := tab.Add(y); e != api.ErrThere {
		t.Error("Add of other ends answers", e)
	}
	y.P = api.Path{Who: a, N: 1}
	if e := tab.Add(y); e != api.OK {
		t.Error("Add of another maker answers", e)
	}
	both := []api.Entry{y, x}
	for id, want := range map[api.ID][]api.Entry{a: both, b: both, who: nil, {}: nil} {
		if l := tab.To(id); !same(l, want) {
			t.Errorf("To(%x) = %v, want %v", id, l, want)
		}
	}
}

// P12.1: lists, written out: by keys; Via and To at either side; Own of either side.
func TestLists(t *testing.T) {
	one, two, three := api.ID{1}, api.ID{2}, api.ID{3}
	first := api.Entry{P: api.Path{Who: one, N: 9}, A: one, B: two, Na: -1, Nb: 2}
	second := api.Entry{P: api.Path{Who: two, N: -4}, A: two, B: three, Na: 2, Nb: 0}
	third := api.Entry{P: api.Path{Who: two, N: 3}, A: two, B: one, Na: 5, Nb: -1}
	fourth := api.Entry{P: api.Path{Who: three, N: 1}, A: three, B: two, Na: 0, Nb: 4}
	tab := table.New(4)
	for _, x := range []api.Entry{third, first, fourth, second} {
		if e := tab.Add(x); e != api.OK {
			t.Fatal("Add answers", e)
		}
	}
	for _, c := range []struct {
		what      string
		got, want []api.Entry
	}{
		{"All", tab.All(), []api.Entry{first, second, third, fourth}},
		{"Own", tab.Own(), []api.Entry{first, third}},
		{"Via(0)", tab.Via(0), []api.Entry{second, fourth}},
		{"Via(1)", tab.Via(1), nil},
		{"Via(2)", tab.Via(2), []api.Entry{first, second}},
		{"Via(3)", tab.Via(3), nil},
		{"Via(4)", tab.Via(4), []api.Entry{fourth}},
		{"Via(5)", tab.Via(5), []api.Entry{third}},
		{"Via(6)", tab.Via(6), nil},
		{"Via(-1)", tab.Via(-1), nil},
		{"Via(-2)", tab.Via(-2), nil},
		{"To(1)", tab.To(one), []api.Entry{first, third}},
		{"To(2)", tab.To(two), []api.Entry{first, second, third, fourth}},
		{"To(3)", tab.To(three), []api.Entry{second, fourth}},
		{"To(4)", tab.To(api.ID{4}), nil},
		{"To(0)", tab.To(api.ID{}), nil},
	} {
		if !same(c.got, c.want) {
			t.Errorf("%s = %v, want %v", c.what, c.got, c.want)
		}
	}
}

// P12.1: Via of all numbers that could be mistaken, of entries of all neighbours.
func TestViaNumbers(t *testing.T) {
	tab, m := table.New(128), toldNew(128)
	n := int64(0)
	for na := -1; na < 6; na++ {
		for nb := -1; nb < 6; nb++ {
			do(t, tab, m, ask{"Add", entry(key(n), na, nb)})
			n++
		}
	}
	looks(t, "all neighbours", tab, m.has)
	all := byKeys(m.has)
	if len(all) != 42 {
		t.Fatal("there are", len(all))
	}
	for _, via := range places() {
		if l, want := tab.Via(via), toldVia(all, via); !same(l, want) {
			t.Errorf("Via(%d) = %v, want %v", via, l, want)
		}
		if l := tab.Via(via); via < 0 && len(l) != 0 || 0 <= via && via < 6 && len(l) != 12 {
			t.Errorf("Via(%d) has %d", via, len(l))
		}
	}
}

// fewAsks are the calls of short scripts: three keys, one of them with two entries, entries that aren't right, a key that never is there.
func fewAsks() []ask {
	x := api.Entry{P: api.Path{Who: api.ID{1}, N: 1}, A: api.ID{1}, B: api.ID{128}, Na: -1, Nb: 2}
	other := api.Entry{P: x.P, A: api.ID{}, B: api.ID{15: 1}, Na: 4, Nb: 2}
	y := api.Entry{P: api.Path{Who: api.ID{1}}, A: api.ID{15: 1}, B: api.ID{1}, Na: 2, Nb: -1}
	z := api.Entry{P: api.Path{Who: api.ID{15: 1}, N: 7}, A: api.ID{128}, B: api.ID{1, 15: 1}, Na: 0, Nb: 5}
	bad := x
	bad.B = bad.A
	never := y
	never.P.N, never.Na = -1, 6
	return []ask{{"Add", x}, {"Add", other}, {"Add", y}, {"Add", z}, {"Add", bad}, {"Add", never}, {"Remove", x}, {"Remove", y}, {"Remove", z}, {"Remove", never}}
}

// keysOf are the keys of some calls.
func keysOf(l []ask) []api.Path {
	var keys []api.Path
	for _, a := range l {
		keys = append(keys, a.x.P)
	}
	return keys
}

// scripts goes over all scripts of just so many calls.
func scripts(of []ask, long int, each func(l []ask)) {
	var grow func(l []ask)
	grow = func(l []ask) {
		if len(l) == long {
			each(l)
			return
		}
		for _, a := range of {
			grow(append(slices.Clone(l), a))
		}
	}
	grow(nil)
}

// P12.1: all short scripts, all that is told held against the second telling behind each call.
func TestShortScripts(t *testing.T) {
	asks := fewAsks()
	keys := keysOf(asks)
	for room := range 4 {
		scripts(asks, 4, func(l []ask) {
			tab, m := table.New(room), toldNew(room)
			for _, a := range l {
				do(t, tab, m, a)
				looks(t, a.what, tab, m.has)
				gets(t, a.what, tab, m, keys)
			}
		})
	}
}

// P12.1: longer ones, of which nothing is asked till they are done.
func TestScriptsUnasked(t *testing.T) {
	asks := fewAsks()
	keys := keysOf(asks)
	for room := 1; room < 4; room++ {
		scripts(asks, 5, func(l []ask) {
			tab, m := table.New(room), toldNew(room)
			for _, a := range l {
				do(t, tab, m, a)
			}
			if got, want := tab.All(), byKeys(m.has); !same(got, want) {
				t.Fatalf("%v: All() = %v, want %v", l, got, want)
			}
			gets(t, "unasked", tab, m, keys)
		})
	}
}

// drawnEntry is mostly right; its key is one of so many.
func drawnEntry(r *rand.Rand, many int) api.Entry {
	ids := someIDs()
	n := int64(r.Intn(many)) - int64(many/2)
	if r.Intn(20) == 0 {
		n = longs()[r.Intn(len(longs()))]
	}
	x := api.Entry{P: api.Path{Who: ids[r.Intn(len(ids))], N: n}, Na: r.Intn(7) - 1, Nb: r.Intn(7) - 1}
	x.A, x.B = ids[r.Intn(len(ids))], ids[r.Intn(len(ids))]
	if r.Intn(12) == 0 {
		x.Na = places()[r.Intn(len(places()))]
	}
	if r.Intn(12) == 0 {
		x.Nb = places()[r.Intn(len(places()))]
	}
	return x
}

// drawnAsk is an Add or, so many times of ten, a Remove.
func drawnAsk(r *rand.Rand, many, removes int) ask {
	if r.Intn(10) < removes {
		return ask{"Remove", drawnEntry(r, many)}
	}
	return ask{"Add", drawnEntry(r, many)}
}

// P12.1: long scripts, drawn the same way in each run: tables that are nearly empty, half full, and full most of the time.
func TestLongScripts(t *testing.T) {
	r := rand.New(rand.NewSource(121))
	for _, most := range []int{-1, 0, 1, 2, 7, 40, 127, 128, 129, math.MaxInt} {
		for _, many := range []int{2, 10, 60, 1000} {
			for _, removes := range []int{1, 5, 8} {
				tab, m := table.New(most), toldNew(most)
				for i := range 300 {
					a := drawnAsk(r, many, removes)
					do(t, tab, m, a)
					gets(t, a.what, tab, m, []api.Path{a.x.P, drawnEntry(r, many).P})
					if i%23 == 0 || len(m.has) < 8 {
						looks(t, a.what, tab, m.has)
					}
				}
				looks(t, "done", tab, m.has)
			}
		}
	}
}

// keeps holds P12.2: never more entries than room, no two of one key, and just those there that were taken and aren't removed, as they were.
func keeps(t *testing.T, tab *table.Table, room int, taken map[api.Path]api.Entry) {
	t.Helper()
	l := tab.All()
	if len(l) > room || tab.Len() > room || tab.Len() != len(l) || len(l) != len(taken) {
		t.Fatalf("room for %d, taken %d: All has %d, Len() = %d", room, len(taken), len(l), tab.Len())
	}
	for i, x := range l {
		if i > 0 && !table.Less(l[i-1].P, x.P) {
			t.Fatalf("%v and %v, one behind the other", l[i-1].P, x.P)
		}
		if x != taken[x.P] {
			t.Fatalf("%v is there, taken was %v", x, taken[x.P])
		}
	}
	for p, x := range taken {
		if got, there := tab.Get(p); got != x || !there {
			t.Fatalf("Get(%v) = %v, %v, taken was %v", p, got, there, x)
		}
	}
}

// keeping follows a script by what the table itself answers, and holds P12.2 behind each call.
func keeping(t *testing.T, most int, l []ask) {
	t.Helper()
	tab, room := table.New(most), min(max(most, 0), 128)
	taken := make(map[api.Path]api.Entry)
	for _, a := range l {
		switch a.what {
		case "Add":
			if tab.Add(a.x) == api.OK {
				taken[a.x.P] = a.x
			}
		case "Remove":
			_, there := tab.Remove(a.x.P)
			if _, is := taken[a.x.P]; is != there {
				t.Fatalf("Remove(%v) answers %v, taken: %v", a.x.P, there, is)
			}
			delete(taken, a.x.P)
		}
		keeps(t, tab, room, taken)
	}
}

// P12.2: behind each call of all short scripts and of long drawn ones.
func TestKeeps(t *testing.T) {
	for room := range 4 {
		scripts(fewAsks(), 4, func(l []ask) { keeping(t, room, l) })
	}
	r := rand.New(rand.NewSource(122))
	for _, most := range []int{-7, 0, 1, 3, 127, 128, 1000} {
		for _, removes := range []int{1, 5} {
			var l []ask
			for range 600 {
				l = append(l, drawnAsk(r, 60, removes))
			}
			keeping(t, most, l)
		}
	}
}

// P12.2: a table that is filled and emptied over and over has as much room as ever.
func TestFilledAndEmptied(t *testing.T) {
	tab := table.New(128)
	for round := range 50 {
		for i := range 129 {
			want := api.OK
			if i == 128 {
				want = api.ErrFull
			}
			if e := tab.Add(entry(key(int64(round*1000+i)), 1, 2)); e != want {
				t.Fatalf("round %d: Add of number %d answers %v", round, i, e)
			}
		}
		for i := range 129 {
			if _, there := tab.Remove(key(int64(round*1000 + i))); there != (i < 128) {
				t.Fatalf("round %d: Remove of number %d answers %v", round, i, there)
			}
		}
		looks(t, "emptied", tab, nil)
	}
}

// R1: a nil table, at every call and all arguments.
func TestNilTable(t *testing.T) {
	var tab *table.Table
	for range 2 {
		if n := tab.Len(); n != 0 {
			t.Error("Len answers", n)
		}
		for _, l := range [][]api.Entry{tab.All(), tab.Own()} {
			if len(l) != 0 {
				t.Error("All or Own answers", l)
			}
		}
		for _, n := range places() {
			if l := tab.Via(n); len(l) != 0 {
				t.Errorf("Via(%d) = %v", n, l)
			}
		}
		for _, id := range byteIDs() {
			if l := tab.To(id); len(l) != 0 {
				t.Errorf("To(%x) = %v", id, l)
			}
			for _, n := range longs() {
				p := api.Path{Who: id, N: n}
				if x, there := tab.Get(p); x != (api.Entry{}) || there {
					t.Errorf("Get(%v) = %v, %v", p, x, there)
				}
				if x, there := tab.Remove(p); x != (api.Entry{}) || there {
					t.Errorf("Remove(%v) = %v, %v", p, x, there)
				}
				if e := tab.Add(entry(p, 1, 2)); e != api.ErrArg {
					t.Errorf("Add(%v) = %v", p, e)
				}
			}
		}
	}
}

// R1, R5: Get and Remove of what isn't there, of every key, twice, in tables that are empty and that aren't.
func TestWhatIsNot(t *testing.T) {
	for _, tab := range []*table.Table{table.New(0), table.New(5), filled(t, 5, 5), filled(t, 128, 9)} {
		was := tab.All()
		for _, id := range byteIDs()[1:] {
			for _, n := range longs() {
				p := api.Path{Who: id, N: n}
				for range 2 {
					if x, there := tab.Get(p); x != (api.Entry{}) || there {
						t.Fatalf("Get(%v) = %v, %v", p, x, there)
					}
					if x, there := tab.Remove(p); x != (api.Entry{}) || there {
						t.Fatalf("Remove(%v) = %v, %v", p, x, there)
					}
				}
			}
		}
		looks(t, "as it was", tab, was)
	}
}

// listsOf are all calls that answer a list, of a table.
func listsOf(tab *table.Table) []func() []api.Entry {
	return []func() []api.Entry{
		tab.All,
		tab.Own,
		func() []api.Entry { return tab.Via(2) },
		func() []api.Entry { return tab.To(api.ID{15: 1}) },
	}
}

// spoil changes a list, its spare room too.
func spoil(l []api.Entry) {
	l = l[:cap(l)]
	for i := range l {
		l[i] = entry(key(-99), 3, 3)
	}
}

// R3: a list that is answered is memory of its own: whoever changes it changes neither the table nor another list.
func TestListsAreNewMemory(t *testing.T) {
	for n := range 20 {
		tab := filled(t, 20, n)
		was := tab.All()
		for i, ask := range listsOf(tab) {
			first, second := ask(), ask()
			want := slices.Clone(second)
			spoil(first)
			if !same(second, want) || !same(ask(), want) {
				t.Fatalf("list %d of %d entries was changed, and with it another", i, n)
			}
			spoil(append(second, entry(key(-98), 1, 2)))
			looks(t, "spoilt", tab, was)
		}
	}
}

// R3: a list that is answered stays, whatever becomes of the table.
func TestListsStay(t *testing.T) {
	for n := range 20 {
		tab := filled(t, 20, n)
		var lists, were [][]api.Entry
		for _, ask := range listsOf(tab) {
			lists = append(lists, ask())
		}
		for _, l := range lists {
			were = append(were, slices.Clone(l[:cap(l)]))
		}
		for i := range n {
			tab.Remove(key(int64(i)))
			tab.Add(entry(key(int64(i)), 5, 4))
		}
		tab.Add(entry(key(-5), -1, 2))
		for i, l := range lists {
			if !same(l[:cap(l)], were[i]) {
				t.Fatalf("list %d of %d entries is %v, was %v", i, n, l, were[i])
			}
		}
	}
}

// R2: the order in which entries came, and what was removed in between, is not to be seen.
func TestOrderOfComing(t *testing.T) {
	r := rand.New(rand.NewSource(2))
	var l []api.Entry
	for len(l) < 128 {
		x := drawnEntry(r, 1000)
		if toldRight(x) && !slices.ContainsFunc(l, func(y api.Entry) bool { return y.P == x.P }) {
			l = append(l, x)
		}
	}
	for range 30 {
		tab := table.New(128)
		for i, at := range r.Perm(len(l)) {
			if i%3 == 0 {
				tab.Add(entry(key(math.MaxInt64-7), 0, 1))
			}
			if tab.Remove(key(math.MaxInt64 - 7)); tab.Add(l[at]) != api.OK {
				t.Fatal("Add of", l[at])
			}
		}
		looks(t, "in another order", tab, l)
	}
}

// R2: what is asked, and how often, changes no answer.
func TestAskedAgain(t *testing.T) {
	r := rand.New(rand.NewSource(22))
	tab, m := table.New(60), toldNew(60)
	for range 300 {
		do(t, tab, m, drawnAsk(r, 40, 3))
	}
	for range 100 {
		looks(t, "asked again", tab, m.has)
	}
}

// R2: two tables have nothing of each other.
func TestTwoTables(t *testing.T) {
	r := rand.New(rand.NewSource(23))
	a, b := table.New(9), table.New(128)
	ma, mb := toldNew(9), toldNew(128)
	for range 400 {
		do(t, a, ma, drawnAsk(r, 6, 4))
		do(t, b, mb, drawnAsk(r, 6, 4))
		looks(t, "the one", a, ma.has)
		looks(t, "the other", b, mb.has)
	}
}
