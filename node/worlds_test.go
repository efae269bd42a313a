package node_test

import (
	"bytes"
	"math/rand"
	"slices"
	"testing"

	"annulet/api"
	"annulet/ident"
	"annulet/node"
	"annulet/pipe"
	"annulet/ring"
	"annulet/table"
)

// net is nodes that are joined by pipes; each is held against its second telling at each call.
type net struct {
	t     *testing.T
	r     *rand.Rand
	nodes []*bench
	runs  []bool
	links [api.MaxNodes][api.MaxNodes]bool
	pipes [api.MaxNodes][api.MaxNodes]pipe.Pipe
	nums  []*numbers

	// By requests: how often a text was handed up, for whom it was, what was answered.
	ups     map[int64]int
	sent    map[int64]api.ID
	answers map[int64]node.Event
}

func newNet(t *testing.T, r *rand.Rand, n, half, paths, sectors int) *net {
	w := &net{t: t, r: r, runs: make([]bool, n), ups: map[int64]int{}, sent: map[int64]api.ID{}, answers: map[int64]node.Event{}}
	at := r.Perm(16)
	for i := range n {
		b := begin(t, node.Config{N: i, ID: spot(byte(16*at[i] + r.Intn(16))), Half: half, Paths: paths}, sectors)
		w.nodes = append(w.nodes, b)
		w.nums = append(w.nums, &numbers{t: t, keys: map[api.Path]int{}, reqs: map[int64]int{}})
		w.runs[i] = true
	}
	return w
}

// after notes what happened at a node, and lets what it sent get under way; if its power failed it runs no more.
func (w *net) after(i int, sent []node.Send) {
	w.t.Helper()
	b := w.nodes[i]
	if b.n.Down() {
		w.runs[i] = false
	}
	onDisk(w.t, b.d, b.told(sent))
	for _, e := range b.ev {
		w.happened(i, e)
	}
	b.forget()
	for _, x := range sent {
		if w.links[i][x.N] {
			w.pipes[i][x.N].Put(x.B)
		}
	}
}

// unique is a request's number with its node's place.
func unique(i int, req int64) int64 { return req<<3 + int64(i) }

func (w *net) at(id api.ID) int {
	return slices.IndexFunc(w.nodes, func(b *bench) bool { return b.c.ID == id })
}

func (w *net) happened(i int, e node.Event) {
	w.t.Helper()
	switch e.Kind {
	case node.EvMade:
		w.nums[i].key(e.P)
	case node.EvUp:
		n := unique(w.at(e.Src), e.Req)
		if w.ups[n]++; w.ups[n] > 1 {
			w.t.Errorf("the text of %d is handed up twice", e.Req)
		}
		if dst, there := w.sent[n]; !there || dst != w.nodes[i].c.ID {
			w.t.Errorf("a text is handed up at %d that was for %v", i, dst)
		}
	case node.EvAnswer:
		n := unique(i, e.Req)
		if _, twice := w.answers[n]; twice || w.nums[i].reqs[e.Req] != 1 && e.Src != e.Dst {
			w.t.Errorf("the request %d of %d is answered twice, or wasn't made", e.Req, i)
		}
		w.answers[n] = e
	}
}

func (w *net) tick(i int) {
	w.t.Helper()
	up := make([]bool, len(w.nodes))
	for j := range up {
		up[j] = w.links[i][j] && w.runs[j]
	}
	w.after(i, w.nodes[i].tick(up))
}

func (w *net) ask(i, op int, dst api.ID, text []byte) int64 {
	w.t.Helper()
	req, sent, e := w.nodes[i].ask(op, dst, text)
	if e == api.OK {
		w.nums[i].req(req)
		if op == api.OpSend {
			w.sent[unique(i, req)] = dst
		}
	}
	w.after(i, sent)
	return req
}

// arrive lets a frame arrive, if its node runs.
func (w *net) arrive(from, to, which int) bool {
	w.t.Helper()
	x, ok := w.pipes[from][to].Take(which)
	if ok && w.runs[to] {
		w.after(to, w.nodes[to].hear(from, x))
	}
	return ok
}

func (w *net) link(i, j int, up bool) {
	w.links[i][j], w.links[j][i] = up, up
	w.pipes[i][j].Fall()
	w.pipes[j][i].Fall()
}

func (w *net) boot(i int) {
	w.t.Helper()
	if !w.runs[i] {
		w.runs[i] = w.nodes[i].again() == api.OK
	}
}

// round is a calm one: all tick, then all that is under way arrives, in order.
func (w *net) round() {
	w.t.Helper()
	for i := range w.nodes {
		if w.runs[i] {
			w.tick(i)
		}
	}
	w.flow()
}

// flow lets all that is under way arrive.
func (w *net) flow() {
	w.t.Helper()
	for moved := true; moved; {
		moved = false
		for i := range w.nodes {
			for j := range w.nodes {
				for range w.pipes[i][j].Len() {
					moved = w.arrive(i, j, 0) || moved
				}
			}
		}
	}
}

// wild is anything that may happen.
func (w *net) wild() {
	w.t.Helper()
	i, j := w.r.Intn(len(w.nodes)), w.r.Intn(len(w.nodes))
	switch w.r.Intn(24) {
	default:
		for range 1 + w.r.Intn(4) {
			w.arrive(i, j, []int{0, 0, w.r.Intn(9)}[w.r.Intn(3)])
		}
	case 0, 1, 2:
		if w.runs[i] {
			w.tick(i)
		}
	case 3, 4:
		if w.runs[i] {
			dst := w.nodes[j].c.ID
			dst[1] += byte(w.r.Intn(2))
			w.ask(i, 1+w.r.Intn(3), dst, nil)
		}
	case 5:
		if i != j {
			w.link(i, j, w.r.Intn(3) > 0)
		}
	case 6:
		w.pipes[i][j].Take(w.r.Intn(9))
	case 7:
		w.pipes[i][j].Twice(w.r.Intn(9))
	case 8:
		w.boot(i)
	case 9:
		switch w.r.Intn(6) {
		case 0:
			w.runs[i] = false
		case 1:
			w.nodes[i].power(w.r.Intn(9))
		case 2:
			w.nodes[i].power(-1)
		}
	case 10:
		if w.r.Intn(4) == 0 {
			w.round()
		}
	}
}

// calm gives power to all, lets all run, and links them: along a row at least.
func (w *net) calm() {
	w.t.Helper()
	row := w.r.Perm(len(w.nodes))
	for at, i := range row {
		w.nodes[i].power(-1)
		w.boot(i)
		if at > 0 && !w.links[i][row[at-1]] {
			w.link(i, row[at-1], true)
		}
	}
}

// stands tells whether each node has just one own path to each of its virtual neighbours, and nothing is kept of any other path.
func (w *net) stands() bool {
	var ids []api.ID
	paths := map[api.Path]int{}
	for _, b := range w.nodes {
		ids = append(ids, b.c.ID)
	}
	for _, b := range w.nodes {
		var friends []api.ID
		for _, x := range b.n.Entries() {
			if x.Na == -1 || x.Nb == -1 {
				paths[x.P]++
				other, _, _ := table.Other(x)
				friends = append(friends, other)
			}
		}
		slices.SortFunc(friends, func(a, b api.ID) int { return bytes.Compare(a[:], b[:]) })
		if !slices.Equal(friends, ring.Want(b.c.ID, ids, b.c.Half)) {
			return false
		}
	}
	for _, b := range w.nodes {
		for _, x := range b.n.Entries() {
			if paths[x.P] != 2 {
				return false
			}
		}
	}
	return true
}

// heals lets calm rounds pass till all stands as it should.
func (w *net) heals() {
	w.t.Helper()
	most := 20 + 2*len(w.nodes)*len(w.nodes)
	for n := 0; !w.stands(); n++ {
		if n == most {
			for _, b := range w.nodes {
				w.t.Logf("%x: %v", b.c.ID, b.n.Entries())
			}
			w.t.Fatalf("behind %d calm rounds it doesn't stand", n)
		}
		w.round()
	}
	for range 5 {
		w.round()
		if !w.stands() {
			w.t.Fatal("it stood, and stands no more")
		}
	}
}

// nearest is the place of the node whose identity is nearest to a key.
func (w *net) nearest(key api.ID) int {
	var ids []api.ID
	for _, b := range w.nodes {
		ids = append(ids, b.c.ID)
	}
	return ident.Nearest(key, ids...)
}

// answered asks, lets all arrive, and is what was answered.
func (w *net) answered(i, op int, dst api.ID, text []byte) node.Event {
	w.t.Helper()
	req := w.ask(i, op, dst, text)
	w.flow()
	e, there := w.answers[unique(i, req)]
	if !there {
		w.t.Fatalf("%d isn't answered on the request %d of %d for %x", i, req, op, dst)
	}
	return e
}

// serves sees that texts come to whom they are for, that a put is kept at the nearest node, and got from everywhere.
func (w *net) serves() {
	w.t.Helper()
	for i, b := range w.nodes {
		for _, c := range w.nodes {
			if e := w.answered(i, api.OpSend, c.c.ID, []byte{byte(i)}); e.Code != api.OK || e.Src != c.c.ID || w.ups[unique(i, e.Req)] != 1 {
				w.t.Fatalf("a text of %d for %x: %+v", i, c.c.ID, e)
			}
		}
		key := spot(byte(w.r.Intn(256)))
		key[15] = 1
		root := w.nodes[w.nearest(key)].c.ID
		if e := w.answered(i, api.OpSend, key, nil); e.Code != api.ErrNone || e.Src != root {
			w.t.Fatalf("a text of %d for nobody: %+v", i, e)
		}
		value := []byte{byte(i), byte(w.r.Intn(256))}
		if e := w.answered(i, api.OpPut, key, value); e.Code != api.OK || e.Src != root || !bytes.Equal(e.Item.Value, value) || e.Item.Ver.Who != root {
			w.t.Fatalf("%x puts at %x: %+v", b.c.ID, key, e)
		}
		for j := range w.nodes {
			if e := w.answered(j, api.OpGet, key, nil); e.Code != api.OK || e.Src != root || !bytes.Equal(e.Item.Value, value) {
				w.t.Fatalf("%d gets %x: %+v", j, key, e)
			}
		}
		w.round()
		w.handed(key, value)
	}
}

// handed sees that the friends of the nearest node to a key keep its value, too.
func (w *net) handed(key api.ID, value []byte) {
	w.t.Helper()
	root := w.nodes[w.nearest(key)]
	for _, b := range w.nodes {
		if b != root && !ring.Has(w.wanted(root), b.c.ID) {
			continue
		}
		at := slices.IndexFunc(b.n.Items(), func(x api.Item) bool { return x.Key == key })
		if at < 0 || !bytes.Equal(b.n.Items()[at].Value, value) {
			w.t.Fatalf("%x doesn't keep %v of %x", b.c.ID, value, key)
		}
	}
}

// wanted are those that a node wants among all.
func (w *net) wanted(b *bench) []api.ID {
	var ids []api.ID
	for _, c := range w.nodes {
		ids = append(ids, c.c.ID)
	}
	return ring.Want(b.c.ID, ids, b.c.Half)
}

// P20.1, P20.2, P20.3: worlds of one to six nodes in which anything happens, each call held against its second telling; then they are calm, stand as they should, and serve.
func TestWorlds(t *testing.T) {
	worlds := 36
	if testing.Short() {
		worlds = 6
	}
	for seed := range int64(worlds) {
		r := rand.New(rand.NewSource(seed))
		w := newNet(t, r, 1+int(seed)%6, 1+r.Intn(3), api.MaxPaths, 900)
		for range 60 * len(w.nodes) {
			w.wild()
		}
		w.calm()
		w.heals()
		w.serves()
		if t.Failed() {
			t.Fatalf("the world %d", seed)
		}
	}
}

// P20.1, P20.2, P20.3: the same with little room in the tables and on the disks: nothing heals, but each call is as said.
func TestNarrowWorlds(t *testing.T) {
	for seed := range int64(12) {
		r := rand.New(rand.NewSource(seed))
		w := newNet(t, r, 2+int(seed)%5, 1+r.Intn(3), 1+r.Intn(6), 5+r.Intn(30))
		for range 100 * len(w.nodes) {
			w.wild()
		}
		if t.Failed() {
			t.Fatalf("the world %d", seed)
		}
	}
}
