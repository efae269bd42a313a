package tear_test

import (
	"math"
	"slices"
	"testing"

	"annulet/api"
	"annulet/frame"
	"annulet/ring"
	"annulet/setup"
	"annulet/table"
	"annulet/tear"
)

// What the chapter promises beside single answers, held without the second telling.

// toldOf is how often a path is told to a side, and how often it is lost.
func toldOf(torn tear.Torn, p api.Path) (sides []int, lost int) {
	for _, h := range torn.Out {
		if h.F.Kind == api.Drop && h.F.P == p {
			sides = append(sides, h.N)
		}
	}
	for _, q := range torn.Lost {
		if q == p {
			lost++
		}
	}
	return sides, lost
}

// once holds what was told of one entry that is gone against its other side.
func once(t *testing.T, torn tear.Torn, x api.Entry, side int) {
	t.Helper()
	sides, lost := toldOf(torn, x.P)
	if side == -1 && (len(sides) != 0 || lost != 1) {
		t.Fatalf("%v ends here, and is told to %v and lost %d times", x, sides, lost)
	}
	if side != -1 && (!slices.Equal(sides, []int{side}) || lost != 0) {
		t.Fatalf("%v is told to %v and lost %d times", x, sides, lost)
	}
}

// buries holds what Dead leaves, and what it tells, against what was there.
func buries(t *testing.T, tab *table.Table, n int) {
	t.Helper()
	before := tab.All()
	torn := tear.Dead(tab, n)
	var rest []api.Entry
	for _, x := range before {
		switch {
		case n >= 0 && x.Na == n:
			once(t, torn, x, x.Nb)
		case n >= 0 && x.Nb == n:
			once(t, torn, x, x.Na)
		default:
			rest = append(rest, x)
		}
	}
	if l := tab.All(); !slices.Equal(l, rest) {
		t.Fatalf("behind Dead(%d) there are %v, want %v", n, l, rest)
	}
	if told := len(torn.Out) + len(torn.Lost); told != len(before)-len(rest) {
		t.Fatalf("Dead(%d) took %d, and told of %d", n, len(before)-len(rest), told)
	}
	if len(tab.Via(n)) != 0 {
		t.Fatalf("behind Dead(%d) there go over it %v", n, tab.Via(n))
	}
	if again := tear.Dead(tab, n); !same(again, tear.Torn{}) {
		t.Fatalf("Dead(%d) once more: %v", n, again)
	}
}

// P15.2: one neighbour after the other dies, at tables with few and with many entries.
func TestDeadTellsEachOnce(t *testing.T) {
	r := draw(152, 12)
	for i := range 400 {
		tab := tableOf(t, r.kept(i%(api.MaxPaths+1)))
		for _, n := range append(r.Perm(api.MaxNodes), -1, 6, math.MaxInt, math.MinInt) {
			buries(t, tab, n)
		}
		if tab.Len() != 0 {
			t.Fatalf("all neighbours are dead, and there is %v", tab.All())
		}
	}
}

// P15.2: what a Drop or an End takes is told just once to each side that it is for.
func TestDropAndEndTellEachOnce(t *testing.T) {
	r := draw(153, 9)
	for i := range 60 {
		k := r.kept(1 + i)
		for _, x := range k {
			for _, from := range []int{x.Na, x.Nb} {
				if from < 0 {
					continue
				}
				tab := tableOf(t, k)
				torn := tear.Drop(tab, from, x.P)
				once(t, torn, x, x.Na+x.Nb-from)
				if len(torn.Out)+len(torn.Lost) != 1 || tab.Len() != len(k)-1 {
					t.Fatalf("Drop of %v tells %v", x, torn)
				}
			}
			torn := tear.End(tableOf(t, k), x.P)
			sides, lost := toldOf(torn, x.P)
			own := x.Na == -1 || x.Nb == -1
			if own && (!slices.Equal(sides, []int{max(x.Na, x.Nb)}) || lost != 1) || len(sides) != lost || len(torn.Out) != len(sides) {
				t.Fatalf("End of %v tells %v", x, torn)
			}
		}
	}
}

// shed takes away what is spare and the twins, in one of three orders.
func shed(tab *table.Table, self api.ID, half, order int) {
	end := func(keys []api.Path) {
		for _, p := range keys {
			tear.End(tab, p)
		}
	}
	switch order {
	case 0:
		end(tear.Spare(tab, self, half))
		end(tear.Twins(tab))
	case 1:
		end(tear.Twins(tab))
		end(tear.Spare(tab, self, half))
	default:
		spare, twins := tear.Spare(tab, self, half), tear.Twins(tab)
		end(append(spare, twins...))
	}
}

// oneEach holds what is left behind shed: friends are wanted, there is one path to each, and none too many was taken.
func oneEach(t *testing.T, tab *table.Table, self api.ID, half int, want []api.ID, first []api.Entry) {
	t.Helper()
	friends := tear.Friends(tab, self)
	if !slices.Equal(friends, ring.Want(self, friends, half)) {
		t.Fatalf("of the friends %x of %x not all are wanted with half %d", friends, self, half)
	}
	if !slices.Equal(friends, want) {
		t.Fatalf("friends are %x, and %x were wanted", friends, want)
	}
	own := tab.Own()
	slices.SortFunc(own, func(a, b api.Entry) int { return slices.Index(first, a) - slices.Index(first, b) })
	if !slices.Equal(own, first) {
		t.Fatalf("own are %v, want one to each friend, %v", own, first)
	}
	if len(tear.Spare(tab, self, half))+len(tear.Twins(tab)) != 0 {
		t.Fatal("something is spare, or a twin, once more")
	}
}

// P15.3: at drawn tables; of each friend that is wanted its first path stays, and what isn't own stays.
func TestWithoutSpareAndTwins(t *testing.T) {
	for _, many := range []int{2, 3, 6, 30} {
		r := draw(int64(3*many), many)
		for i := range 150 {
			k := r.kept(i % min(api.MaxPaths, 20*many))
			self, half, order := r.id(), r.Intn(6)-1, i%3
			tab := tableOf(t, k)
			want := ring.Want(self, tear.Friends(tab, self), half)
			var first []api.Entry
			for _, id := range want {
				x, _ := tear.First(tab, id)
				first = append(first, x)
			}
			shed(tab, self, half, order)
			oneEach(t, tab, self, half, want, first)
			for _, x := range k {
				if y, there := tab.Get(x.P); x.Na >= 0 && x.Nb >= 0 && (!there || y != x) {
					t.Fatalf("%v isn't own, and was taken", x)
				}
			}
		}
	}
}

// P15.3: the node's own identity is no friend, and twins of it are spare, too.
func TestWithoutPathsToItself(t *testing.T) {
	for order := range 3 {
		tab := tableOf(t, kept{to(1, anna, 0), by(2, anna, 1), to(3, bert, 0), by(4, bert, 5), over(5, 0, 1)})
		shed(tab, anna, 3, order)
		if l := tab.All(); !slices.Equal(l, []api.Entry{to(3, bert, 0), over(5, 0, 1)}) {
			t.Fatalf("there are %v", l)
		}
	}
}

// web is six nodes, whose tables paths are laid in.
type web struct {
	tabs []*table.Table
	lost []kept // of each node what it was told that is lost, the keys alone
}

func newWeb() *web {
	w := &web{lost: make([]kept, api.MaxNodes)}
	for range api.MaxNodes {
		w.tabs = append(w.tabs, table.New(api.MaxPaths))
	}
	return w
}

func nodeID(n int) api.ID { return api.ID{9, 15: byte(n)} }

// lay lays a path along a way from end to end.
func (w *web) lay(t *testing.T, p api.Path, way []int) {
	t.Helper()
	open := []bool{true, true, true, true, true, true}
	self := func(n int) setup.Self { return setup.Self{N: n, ID: nodeID(n)} }
	ended, e := setup.Start(w.tabs[way[0]], self(way[0]), p, nodeID(way[len(way)-1]), way, open)
	if e != api.OK {
		t.Fatalf("Start along %v = %v", way, e)
	}
	for i, n := range way[1:] {
		ended = setup.Take(w.tabs[n], self(n), way[i], ended.Out[0].F, open)
	}
	if !ended.Mine {
		t.Fatalf("along %v no path was laid: %v", way, ended)
	}
}

// spread hands what was told at a node to its neighbours, and so on; frames go as bytes.
func (w *web) spread(t *testing.T, at int, torn tear.Torn) {
	t.Helper()
	for _, p := range torn.Lost {
		w.lost[at] = append(w.lost[at], api.Entry{P: p})
	}
	for _, h := range torn.Out {
		b, e := frame.Encode(h.F)
		if e != api.OK {
			t.Fatalf("%v has no bytes: %v", h.F, e)
		}
		f, _ := frame.Decode(b)
		w.spread(t, h.N, tear.Drop(w.tabs[h.N], at, f.P))
	}
}

// isGone holds that of a path nothing is left, and that just its two ends lost it, each once.
func (w *web) isGone(t *testing.T, p api.Path, way []int) {
	t.Helper()
	for n, tab := range w.tabs {
		if x, there := tab.Get(p); there {
			t.Fatalf("of the path along %v there is %v at %d", way, x, n)
		}
		want := 0
		if n == way[0] || n == way[len(way)-1] {
			want = 1
		}
		if got := len(w.lost[n]) - len(w.lost[n].without(p)); got != want {
			t.Fatalf("the path along %v was lost %d times at %d, want %d", way, got, n, want)
		}
	}
}

// isThere holds that a path stands at each place of its way, and that nobody lost it.
func (w *web) isThere(t *testing.T, p api.Path, way []int) {
	t.Helper()
	for _, n := range way {
		if _, there := w.tabs[n].Get(p); !there || len(w.lost[n].without(p)) != len(w.lost[n]) {
			t.Fatalf("the path along %v is gone at %d", way, n)
		}
	}
}

// crosses tells whether a way has a step between two places, either way.
func crosses(way []int, a, b int) bool {
	for i, n := range way[1:] {
		if n == b && way[i] == a || n == a && way[i] == b {
			return true
		}
	}
	return false
}

// laid is a path, and the way that it was laid along.
type laid struct {
	p   api.Path
	way []int
}

// P15.1, P15.2: paths laid by layer 14 are taken away whole: ended at one of both ends, or because a session on them died; all others stay.
func TestWholePathsAreTorn(t *testing.T) {
	r := draw(154, 7)
	for range 40 {
		w := newWeb()
		var paths []laid
		for n := range int64(60) {
			way := r.Perm(api.MaxNodes)[:2+r.Intn(api.MaxNodes-1)]
			paths = append(paths, laid{api.Path{Who: nodeID(way[0]), N: n}, way})
			w.lay(t, paths[n].p, way)
		}
		for _, l := range paths[:15] {
			at := l.way[r.Intn(2)*(len(l.way)-1)]
			w.spread(t, at, tear.End(w.tabs[at], l.p))
			w.isGone(t, l.p, l.way)
		}
		a, b := r.Intn(3), 3+r.Intn(3)
		atA, atB := tear.Dead(w.tabs[a], b), tear.Dead(w.tabs[b], a)
		w.spread(t, a, atA)
		w.spread(t, b, atB)
		for _, l := range paths[15:] {
			if crosses(l.way, a, b) {
				w.isGone(t, l.p, l.way)
			} else {
				w.isThere(t, l.p, l.way)
			}
		}
	}
}

// R1: a nil table and one without entries, at every call, with every argument.
func TestNoEntries(t *testing.T) {
	numbers := append(odd(), 0, 1, 2, 3, 4, 5)
	keys := []api.Path{{}, key(1), {N: -1}, {Who: last, N: math.MaxInt64}, {Who: emil, N: math.MinInt64}}
	ids := []api.ID{{}, anna, emil, last}
	for _, k := range []kept{nil, {}} {
		holds(t, k, numbers, keys, ids, numbers)
	}
}

// R1: every call with the oddest arguments, at a table that has entries.
func TestOddArguments(t *testing.T) {
	k := kept{over(1, 0, 2), to(2, bert, 0), by(3, last, 4), to(4, api.ID{}, 5), by(-1, emil, 3)}
	keys := append(keysOf(1, 2, 3, 4, -1, 0, math.MaxInt64, math.MinInt64, 1+1<<32), api.Path{Who: last, N: 1})
	ids := []api.ID{{}, {15: 1}, anna, bert, {127}, emil, last}
	holds(t, k, odd(), keys, ids, append(odd(), 0, 1, 2, 3, 4, 5))
}

// spoil changes all of a list that it can reach, and behind its end.
func spoil[T any](l []T, with T) {
	l = l[:cap(l)]
	for i := range l {
		l[i] = with
	}
}

func spoilTorn(torn tear.Torn) {
	for _, h := range torn.Out {
		spoil(h.F.Trail, -9)
		spoil(h.F.IDs, last)
		spoil(h.F.Text, 9)
		spoil(h.F.Item.Value, 9)
	}
	spoil(torn.Out, api.Hop{N: -9, F: api.Frame{Kind: -9}})
	spoil(torn.Lost, api.Path{Who: last, N: -9})
}

// R3: whoever changes what was told changes neither the table nor what is told next.
func TestToldIsNewMemory(t *testing.T) {
	r := draw(155, 8)
	for i := range 40 {
		k := r.kept(3 * i)
		tab := tableOf(t, k)
		for range 3 {
			id := r.id()
			spoil(tear.Friends(tab, id), last)
			spoil(tear.Spare(tab, id, i%3), key(-9))
			spoil(tear.Twins(tab), key(-9))
			tells(t, tab, k, r.ids, []int{0, 1, 2})
		}
		for n := range api.MaxNodes {
			p := r.one(k)
			_, k = toldEnd(k, p)
			spoilTorn(tear.End(tab, p))
			looks(t, "behind End", tab, k)
			p = r.one(k)
			_, k = toldDrop(k, n, p)
			spoilTorn(tear.Drop(tab, n, p))
			looks(t, "behind Drop", tab, k)
			_, k = toldDead(k, n)
			spoilTorn(tear.Dead(tab, n))
			tells(t, tab, k, r.ids[:2], []int{1})
		}
	}
}

// R3: no two answers, and no two lists of one answer, share anything, their spare room neither.
func TestAnswersShareNothing(t *testing.T) {
	k := kept{over(1, 0, 2), to(2, bert, 0), by(3, carl, 0), over(4, 2, 0), to(5, bert, 0), over(6, 0, 1)}
	want, _ := toldDead(k, 0)
	a, b := tear.Dead(tableOf(t, k), 0), tear.Dead(tableOf(t, k), 0)
	spoilTorn(a)
	if !same(b, want) {
		t.Fatalf("the second became %v", b)
	}
	spoil(b.Lost, key(-9))
	if !slices.EqualFunc(b.Out, want.Out, sameHop) {
		t.Fatalf("what goes out became %v", b.Out)
	}
	tab := tableOf(t, k)
	spare, twins := tear.Spare(tab, anna, 0), tear.Twins(tab)
	friends := tear.Friends(tab, anna)
	spoil(spare, key(-9))
	spoil(tear.Friends(tab, anna), last)
	if !slices.Equal(twins, keysOf(5)) || !slices.Equal(friends, []api.ID{carl, bert}) {
		t.Fatalf("twins became %v, and friends %x", twins, friends)
	}
}

// R2: equal tables, whatever they were made from, answer the same, as often as they are asked.
func TestSameAgain(t *testing.T) {
	r := draw(156, 10)
	k := r.kept(60)
	for range 20 {
		r.Shuffle(len(k), func(i, j int) { k[i], k[j] = k[j], k[i] })
		holds(t, k, []int{0, 3}, []api.Path{k[0].P, k[1].P}, r.ids[:3], []int{0, 1, 2})
		tab := tableOf(t, k)
		for range 5 {
			tells(t, tab, k, r.ids[:3], []int{1})
		}
	}
}

// P15.1: what is gone leaves room: a full table takes as many as were taken, and no more.
func TestGoneLeavesRoom(t *testing.T) {
	for _, c := range []struct {
		what string
		call func(tab *table.Table) tear.Torn
		room int
	}{
		{"Drop", func(tab *table.Table) tear.Torn { return tear.Drop(tab, 0, key(1)) }, 1},
		{"Drop from neither", func(tab *table.Table) tear.Torn { return tear.Drop(tab, 1, key(1)) }, 0},
		{"End", func(tab *table.Table) tear.Torn { return tear.End(tab, key(2)) }, 1},
		{"End of one that isn't own", func(tab *table.Table) tear.Torn { return tear.End(tab, key(1)) }, 0},
		{"Dead", func(tab *table.Table) tear.Torn { return tear.Dead(tab, 0) }, 2},
		{"Dead of another", func(tab *table.Table) tear.Torn { return tear.Dead(tab, 4) }, 0},
	} {
		tab := table.New(3)
		for _, x := range []api.Entry{over(1, 0, 2), to(2, bert, 0), over(3, 1, 2)} {
			tab.Add(x)
		}
		c.call(tab)
		for i := range int64(3) {
			want := api.OK
			if int(i) >= c.room {
				want = api.ErrFull
			}
			if e := tab.Add(over(10+i, 0, 1)); e != want {
				t.Errorf("behind %s, Add of number %d = %v, want %v", c.what, i, e, want)
			}
		}
	}
}

// R5: where there is nothing, all is nothing.
func TestNothing(t *testing.T) {
	k := kept{over(1, 0, 2), to(2, bert, 0)}
	for _, torn := range []tear.Torn{
		tear.Drop(tableOf(t, k), -1, key(2)),
		tear.Drop(tableOf(t, k), 3, key(1)),
		tear.Drop(tableOf(t, k), 0, key(3)),
		tear.Dead(tableOf(t, k), 5),
		tear.Dead(tableOf(t, k), -1),
		tear.End(tableOf(t, k), key(1)),
		tear.End(tableOf(t, k), key(3)),
	} {
		if len(torn.Out)+len(torn.Lost) != 0 {
			t.Errorf("told: %v", torn)
		}
	}
	if x, there := tear.First(tableOf(t, k), anna); x != (api.Entry{}) || there {
		t.Errorf("First = %v, %v", x, there)
	}
}
