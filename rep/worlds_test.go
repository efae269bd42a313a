package rep_test

import (
	"bytes"
	"math"
	"math/rand"
	"slices"
	"testing"

	"annulet/api"
	"annulet/rep"
)

// What nodes that tell each other their Best come to. A world's own telling of who is how far from whom knows nothing of layer 16.

// rounds are as many as the chapter says that are enough.
const rounds = 12

// link is between two places.
type link struct{ a, b int }

// web is nodes by places: their identities, who is linked, and what each has heard.
type web struct {
	ids   []api.ID
	links []link
	heard [][]rep.Heard
}

func newWeb(ids []api.ID, links []link) *web {
	return &web{ids: ids, links: links, heard: make([][]rep.Heard, len(ids))}
}

// nears are the places that one is linked with.
func (w *web) nears(n int) []int {
	var l []int
	for _, x := range w.links {
		switch n {
		case x.a:
			l = append(l, x.b)
		case x.b:
			l = append(l, x.a)
		}
	}
	return l
}

func (w *web) bests() []rep.Heard {
	var l []rep.Heard
	for n, id := range w.ids {
		l = append(l, rep.Best(id, w.heard[n]))
	}
	return l
}

// round lets all tell at one time: what is told was known ahead of it.
func (w *web) round() {
	told := w.bests()
	for n := range w.ids {
		for _, from := range w.nears(n) {
			w.heard[n] = rep.Put(w.heard[n], rep.Heard{N: from, ID: told[from].ID, Far: told[from].Far})
		}
	}
}

// far is how many links it is from one place to each; -1: it isn't reached.
func (w *web) far(from int) []int {
	l := slices.Repeat([]int{-1}, len(w.ids))
	l[from] = 0
	for next := []int{from}; len(next) > 0; next = next[1:] {
		for _, n := range w.nears(next[0]) {
			if l[n] < 0 {
				l[n] = l[next[0]] + 1
				next = append(next, n)
			}
		}
	}
	return l
}

// least is the least identity that is reached, and how far the nearest node that has it is.
func (w *web) least(from int) (api.ID, int) {
	id, far := w.ids[from], 0
	for n, d := range w.far(from) {
		by := bytes.Compare(w.ids[n][:], id[:])
		if d >= 0 && (by < 0 || by == 0 && d < far) {
			id, far = w.ids[n], d
		}
	}
	return id, far
}

// due is what each one's Best comes to be: the least identity that it reaches, as far as it is, by the least of the places that are one link nearer.
func (w *web) due() []rep.Heard {
	var l []rep.Heard
	for n := range w.ids {
		id, far := w.least(n)
		by := -1
		for _, near := range w.nears(n) {
			if _, d := w.least(near); d == far-1 && (by < 0 || near < by) {
				by = near
			}
		}
		l = append(l, rep.Heard{N: by, ID: id, Far: int64(far)})
	}
	return l
}

// heals lets twelve rounds pass and a few more, and holds what all know then.
func (w *web) heals(t *testing.T) {
	t.Helper()
	ahead := make([][]rep.Heard, len(w.ids))
	for n := range w.heard {
		ahead[n] = slices.Clone(w.heard[n])
	}
	due := w.due()
	for range rounds {
		w.round()
	}
	for more := range 3 {
		// P16.2: all come to the least one; P16.3: so to none that isn't there.
		for n, x := range w.bests() {
			if x.ID != due[n].ID {
				t.Fatalf("%x linked by %v, heard ahead %v: after %d rounds %d's Best is %v, want %v", w.ids, w.links, ahead, rounds+more, n, x, due[n])
			}
			// Not in the promise's words, but so it comes: it is as far as it is told, too.
			if x != due[n] {
				t.Fatalf("%x linked by %v, heard ahead %v: after %d rounds %d's Best is %v, but the way is %v", w.ids, w.links, ahead, rounds+more, n, x, due[n])
			}
		}
		w.round()
	}
}

// pairs are all links that there may be of so many nodes.
func pairs(nodes int) []link {
	var l []link
	for b := range nodes {
		for a := range b {
			l = append(l, link{a, b})
		}
	}
	return l
}

// linkings goes over all ways of linking so many.
func linkings(nodes int, each func(links []link)) {
	all := pairs(nodes)
	for set := range 1 << len(all) {
		var l []link
		for i, x := range all {
			if set>>i&1 == 1 {
				l = append(l, x)
			}
		}
		each(l)
	}
}

func row(nodes int) []link {
	var l []link
	for n := 1; n < nodes; n++ {
		l = append(l, link{n - 1, n})
	}
	return l
}

func star(nodes, middle int) []link {
	var l []link
	for n := range nodes {
		if n != middle {
			l = append(l, link{middle, n})
		}
	}
	return l
}

// shapes are links of six: rows, rings, stars, all with all, and parts that aren't linked.
func shapes() [][]link {
	l := [][]link{
		nil,
		row(6),
		append(row(6), link{5, 0}),
		star(6, 0),
		star(6, 3),
		pairs(6),
		{{0, 1}, {1, 2}, {3, 4}, {4, 5}},
		{{0, 1}, {1, 2}, {2, 0}, {3, 4}, {4, 5}, {5, 3}},
		{{0, 1}, {1, 2}, {2, 0}, {3, 4}, {4, 5}, {5, 3}, {0, 5}},
		{{0, 1}, {2, 3}, {4, 5}},
		{{0, 5}, {5, 1}, {1, 4}, {4, 2}, {2, 3}},
		{{1, 2}, {2, 3}, {3, 4}, {4, 5}, {5, 1}},
	}
	return append(l, row(5), star(5, 4))
}

// own are identities of so many, with room below them for such as nobody has.
func own(nodes int) []api.ID {
	var l []api.ID
	for n := range nodes {
		l = append(l, small(byte(20+10*n)))
	}
	return l
}

func mixed(r *rand.Rand, ids []api.ID) []api.ID {
	out := slices.Clone(ids)
	r.Shuffle(len(out), func(i, j int) { out[i], out[j] = out[j], out[i] })
	return out
}

// rumours lets each have heard, of those that it is linked with, whatever is drawn: of identities that are there, that nobody has, and of every distance; now and then twice, and in no order.
func (w *web) rumours(r *rand.Rand) {
	for n := range w.ids {
		var l []rep.Heard
		for _, from := range w.nears(n) {
			for range []int{0, 1, 1, 1, 2}[r.Intn(5)] {
				x := rep.Heard{N: from, ID: pick(r, w.ids), Far: int64(r.Intn(9)) - 1}
				switch r.Intn(4) {
				case 0:
					x.ID = small(byte(r.Intn(20)))
				case 1:
					x.ID = drawnID(r)
				}
				if r.Intn(5) == 0 {
					x.Far = pick(r, edgeFars())
				}
				l = append(l, x)
			}
		}
		r.Shuffle(len(l), func(i, j int) { l[i], l[j] = l[j], l[i] })
		w.heard[n] = l
	}
}

// saying lets each have heard the same of all that it is linked with.
func (w *web) saying(id api.ID, far int64) {
	for n := range w.ids {
		w.heard[n] = nil
		for _, from := range w.nears(n) {
			w.heard[n] = append(w.heard[n], rep.Heard{N: from, ID: id, Far: far})
		}
	}
}

// P16.2: all ways of linking one to five, and a drawn quarter of those of six, with nothing heard ahead and with what is drawn.
func TestAllComeToTheLeast(t *testing.T) {
	r := rand.New(rand.NewSource(16))
	for nodes := 1; nodes <= api.MaxNodes; nodes++ {
		times := []int{0, 50, 50, 50, 20, 4, 1}[nodes]
		linkings(nodes, func(links []link) {
			if nodes == api.MaxNodes && r.Intn(4) > 0 {
				return
			}
			newWeb(own(nodes), links).heals(t)
			for range times {
				w := newWeb(mixed(r, own(nodes)), links)
				w.rumours(r)
				w.heals(t)
			}
		})
	}
}

// P16.2, P16.3: three nodes, linked in each way, with all that each may have heard of each.
func TestThreeWithAllThatMayBeHeard(t *testing.T) {
	said := []rep.Heard{one(0, 3, -1), one(0, 3, 0), one(0, 3, 5), one(0, 20, 0), one(0, 30, 1), one(0, 3, 6)}
	linkings(3, func(links []link) {
		var heard func(w *web, at int)
		heard = func(w *web, at int) {
			if at == 2*len(links) {
				x := newWeb(w.ids, w.links)
				copy(x.heard, w.heard)
				x.heals(t)
				return
			}
			to, from := links[at/2].a, links[at/2].b
			if at%2 == 1 {
				to, from = from, to
			}
			was := w.heard[to]
			heard(w, at+1)
			for _, x := range said[:len(said)-2*(len(links)/3)] {
				x.N = from
				w.heard[to] = append(slices.Clone(was), x)
				heard(w, at+1)
			}
			w.heard[to] = was
		}
		heard(newWeb([]api.ID{small(30), small(20), small(40)}, links), 0)
	})
}

// P16.2, P16.3: six in every shape, the least of them at each place; all have heard the same of one that isn't there, or of one that is, as near or as far as may be.
func TestShapesForget(t *testing.T) {
	for _, links := range shapes() {
		for least := range api.MaxNodes {
			ids := own(api.MaxNodes)
			ids[0], ids[least] = ids[least], ids[0]
			for _, far := range edgeFars() {
				for _, id := range []api.ID{{}, small(19), small(20), small(35), small(70), small(255), {0: 255}} {
					w := newWeb(ids, links)
					w.saying(id, far)
					w.heals(t)
				}
			}
		}
	}
}

// P16.2, P16.3: shapes of six, with whatever is drawn.
func TestShapesWithRumours(t *testing.T) {
	r := rand.New(rand.NewSource(162))
	for _, links := range shapes() {
		for range 300 {
			w := newWeb(mixed(r, own(api.MaxNodes)), links)
			w.rumours(r)
			w.heals(t)
		}
	}
}

// P16.2: any identities, also the same at two nodes.
func TestAnyIdentities(t *testing.T) {
	r := rand.New(rand.NewSource(163))
	for range 3000 {
		ids := make([]api.ID, 1+r.Intn(api.MaxNodes))
		for i := range ids {
			ids[i] = drawnID(r)
		}
		var links []link
		for _, x := range pairs(len(ids)) {
			if r.Intn(5) < 2 {
				links = append(links, x)
			}
		}
		w := newWeb(ids, links)
		w.rumours(r)
		w.heals(t)
	}
}

// P16.3: many who aren't there, each less than all, are gone together; with each distance that counts.
func TestManyWhoAreNotThere(t *testing.T) {
	gone := func(id api.ID) bool { return bytes.Compare(id[:], own(1)[0][:]) < 0 }
	for _, links := range shapes() {
		for first := range int64(6) {
			w := newWeb(own(api.MaxNodes), links)
			for n := range w.ids {
				for _, from := range w.nears(n) {
					w.heard[n] = append(w.heard[n], one(from, byte(3*n+from)%20, (first+int64(n*from))%6))
				}
			}
			for n, x := range w.bests() {
				if len(w.nears(n)) > 0 && !gone(x.ID) {
					t.Fatalf("%d has heard of one that isn't there, but its Best is %v", n, x)
				}
			}
			for range rounds {
				w.round()
			}
			for n, x := range w.bests() {
				if gone(x.ID) {
					t.Fatalf("linked by %v: after %d rounds %d's Best is %v, who isn't there", links, rounds, n, x)
				}
			}
		}
	}
}

// P16.2, P16.3: six in every shape have come to the least one, which then goes away, and comes back: whoever was linked with it forgets what it told.
func TestTheLeastGoesAndComesBack(t *testing.T) {
	for gone := range api.MaxNodes {
		ids := own(api.MaxNodes)
		ids[0], ids[gone] = ids[gone], ids[0]
		for _, links := range shapes() {
			w := newWeb(ids, links)
			w.heals(t)
			w.links = slices.DeleteFunc(slices.Clone(links), func(x link) bool { return x.a == gone || x.b == gone })
			for n := range w.ids {
				w.heard[n] = rep.Forget(w.heard[n], gone)
			}
			w.heard[gone] = nil
			w.heals(t)
			w.links = links
			w.heals(t)
		}
	}
}

// P16.3: without what is told of farther and farther away it would go round: two that are linked tell each other of one that isn't there, and count it away.
func TestCountedAway(t *testing.T) {
	w := newWeb(own(2), row(2))
	w.saying(small(1), 0)
	for round := range int64(6) {
		for n, x := range w.bests() {
			if want := one(1-n, 1, round+1); x != want {
				t.Errorf("after %d rounds %d's Best is %v, want %v", round, n, x, want)
			}
		}
		w.round()
	}
	for n, x := range w.bests() {
		if x.ID != w.ids[n] || x.N != -1 || x.Far != 0 {
			t.Errorf("counted away, %d's Best is %v", n, x)
		}
	}
}

// P16.2: at the greatest distance of six: a row's last one hears of its first one at 5.
func TestRowReachesItsEnd(t *testing.T) {
	w := newWeb(own(api.MaxNodes), row(api.MaxNodes))
	for range rounds {
		w.round()
	}
	if x := w.bests()[5]; x != one(4, 20, 5) {
		t.Errorf("the last one's Best is %v", x)
	}
	if x := w.heard[0]; !slices.Equal(x, []rep.Heard{one(1, 20, 1)}) {
		t.Errorf("the first one has heard %v", x)
	}
	w.heard[5] = rep.Put(w.heard[5], one(4, 1, math.MaxInt64))
	if x := w.bests()[5]; x != one(-1, 70, 0) {
		t.Errorf("told of one that is too far, the last one's Best is %v", x)
	}
}
