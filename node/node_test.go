package node_test

import (
	"bytes"
	"slices"
	"testing"

	"annulet/api"
	"annulet/disk"
	"annulet/frame"
	"annulet/node"
	"annulet/route"
	"annulet/slate"
	"annulet/vault"
	"annulet/wire"
)

// usual is a node between others, as most tests have it.
func usual() node.Config { return node.Config{N: 2, ID: spot(0x50), Half: 1, Paths: 128} }

// between is the usual node with a side on each side of it: 1 with the spot 0x30, 3 with 0x70.
func between(t *testing.T) *bench {
	t.Helper()
	return betweenAs(t, usual())
}

func betweenAs(t *testing.T, c node.Config) *bench {
	t.Helper()
	b := begin(t, c, 80)
	b.join(1, spot(0x30))
	b.join(3, spot(0x70))
	return b
}

func key(who byte, n int64) api.Path { return api.Path{Who: spot(who), N: n} }

// lay lets the place ahead of the node on a way tell it a Setup; the path is there then.
func (b *bench) lay(p api.Path, from, to byte, way ...int) {
	b.t.Helper()
	at := slices.Index(way, b.c.N)
	b.say(way[at-1], frame.Setup{P: p, A: spot(from), B: spot(to), Trail: way})
	if _, there := b.entry(p); !there {
		b.t.Fatalf("the path %v isn't laid", p)
	}
	b.forget()
}

func (b *bench) entry(p api.Path) (api.Entry, bool) {
	for _, x := range b.n.Entries() {
		if x.P == p {
			return x, true
		}
	}
	return api.Entry{}, false
}

// P20.1: the chapter's example.
func TestExample(t *testing.T) {
	a := begin(t, node.Config{N: 0, ID: spot(1), Half: 1, Paths: 9}, 40)
	b := begin(t, node.Config{N: 1, ID: spot(2), Half: 1, Paths: 9}, 40)
	round := func() {
		x, y := a.tick([]bool{false, true}), b.tick([]bool{true})
		for len(x)+len(y) > 0 {
			var back, on []node.Send
			for _, s := range y {
				back = append(back, a.hear(1, s.B)...)
			}
			for _, s := range x {
				on = append(on, b.hear(0, s.B)...)
			}
			x, y = back, on
		}
	}
	round()
	if !a.n.End(1).Open || !b.n.End(0).Open || a.n.End(1).ID != spot(2) || b.n.End(0).ID != spot(1) {
		t.Fatal("a session isn't open")
	}
	if len(a.n.Entries())+len(b.n.Entries()) != 0 {
		t.Fatal("there is a path ahead of any Ask")
	}
	round()
	l := a.n.Entries()
	if len(l) == 0 || len(b.n.Entries()) != len(l) {
		t.Fatalf("the paths are %v and %v", l, b.n.Entries())
	}
	// Each asked, so each may have laid one; of two the later one goes.
	round()
	l = a.n.Entries()
	if len(l) != 1 || l[0] != (api.Entry{P: key(1, 1<<32+1), A: spot(1), B: spot(2), Na: -1, Nb: 1}) {
		t.Errorf("0 has %v", l)
	}
	l = b.n.Entries()
	if len(l) != 1 || l[0] != (api.Entry{P: key(1, 1<<32+1), A: spot(1), B: spot(2), Na: 0, Nb: -1}) {
		t.Errorf("1 has %v", l)
	}
}

// P20.1: the edges of what a node may be; where it may not, nothing is written.
func TestNewEdges(t *testing.T) {
	for _, c := range []struct {
		n, half, paths int
		ok             bool
	}{
		{0, 1, 1, true}, {5, 3, 128, true}, {2, 2, 64, true},
		{-1, 1, 1, false}, {6, 1, 1, false}, {-1 << 63, 1, 1, false}, {1<<63 - 1, 1, 1, false},
		{0, 0, 1, false}, {0, 4, 1, false}, {0, -1, 1, false},
		{0, 1, 0, false}, {0, 1, 129, false}, {0, 1, -1, false},
	} {
		d := disk.New(9)
		n, e := node.New(node.Config{N: c.n, ID: spot(7), Half: c.half, Paths: c.paths}, d)
		if c.ok && (e != api.OK || n == nil || n.Down() || n.Inc() != 1 || d.Done() != 2) {
			t.Errorf("%+v: %v, %d writes", c, e, d.Done())
		}
		if !c.ok && (e != api.ErrArg || n != nil || d.Done() != 0) {
			t.Errorf("%+v: %v, %d writes", c, e, d.Done())
		}
	}
}

// diskOf is a disk with these records in its log.
func diskOf(t *testing.T, sectors int, recs ...[]byte) *disk.Disk {
	t.Helper()
	d := disk.New(sectors)
	l, _, e := slate.Open(d)
	for _, rec := range recs {
		if e == api.OK {
			e = l.Append(rec)
		}
	}
	if e != api.OK {
		t.Fatal(e)
	}
	return d
}

// P20.1: disks on which no node begins, each with the vault's error.
func TestNewDisks(t *testing.T) {
	bad, _ := disk.Of(append(bytes.Repeat([]byte{0xff}, 24), make([]byte, 2*64+40)...))
	down := disk.New(9)
	down.Power(1)
	full := diskOf(t, 3, wire.PutNum(1, 1))
	for _, c := range []struct {
		name string
		d    *disk.Disk
		e    api.Errno
	}{
		{"nil", nil, api.ErrArg},
		{"no sectors", disk.New(0), api.ErrArg},
		{"two sectors", disk.New(2), api.ErrArg},
		{"no log", bad, api.ErrForm},
		{"no vault", diskOf(t, 9, []byte("hello")), api.ErrForm},
		{"an empty record", diskOf(t, 9, nil), api.ErrForm},
		{"the last beginning", diskOf(t, 9, wire.PutNum(1, api.MaxInc)), api.ErrFull},
		{"no room", full, api.ErrFull},
		{"no power", down, api.ErrDown},
	} {
		n, e := node.New(usual(), c.d)
		if n != nil || e != c.e {
			t.Errorf("%s: %v, want %v", c.name, e, c.e)
		}
		// What the node may not be is said first.
		if n, e := node.New(node.Config{N: 6, Half: 1, Paths: 1}, c.d); n != nil || e != api.ErrArg {
			t.Errorf("%s, and the place 6: %v", c.name, e)
		}
	}
	last := diskOf(t, 9, wire.PutNum(1, api.MaxInc-1))
	if n, e := node.New(usual(), last); e != api.OK || n.Inc() != api.MaxInc {
		t.Errorf("ahead of the last beginning: %v", e)
	}
}

// P20.1: a nil node at every call.
func TestNilNode(t *testing.T) {
	var n *node.Node
	for range 2 {
		if n.Tick([]bool{true, true}) != nil || n.Hear(0, encoded(frame.Plain(frame.Drop{}))) != nil {
			t.Error("it sends")
		}
		for _, op := range []int{-1, 0, 1, 2, 3, 4} {
			if req, sent, e := n.Ask(op, spot(1), make([]byte, 99)); req != 0 || sent != nil || e != api.ErrArg {
				t.Errorf("Ask: %d, %v, %v", req, sent, e)
			}
		}
		if !n.Down() || len(n.Events()) != 0 || n.Inc() != 0 || len(n.Items()) != 0 || len(n.Entries()) != 0 {
			t.Error("it tells something")
		}
		for i := -1; i < 7; i++ {
			if !alike(n.End(i), node.End{}) {
				t.Errorf("End(%d) is %v", i, n.End(i))
			}
		}
	}
}

// P20.1: what may not be asked for takes no number, and changes nothing.
func TestAskErrors(t *testing.T) {
	long, longer := bytes.Repeat([]byte{'x'}, 64), bytes.Repeat([]byte{'x'}, 65)
	b := begin(t, usual(), 80)
	for i, c := range []struct {
		op   int
		text []byte
		e    api.Errno
	}{
		{0, nil, api.ErrArg}, {4, nil, api.ErrArg}, {-1, longer, api.ErrArg}, {1 << 62, nil, api.ErrArg},
		{3, []byte{0}, api.ErrArg}, {3, longer, api.ErrArg}, {1, longer, api.ErrLong}, {2, longer, api.ErrLong},
		{3, nil, api.OK}, {3, []byte{}, api.OK}, {1, long, api.OK}, {2, long, api.OK}, {1, nil, api.OK}, {2, nil, api.OK},
	} {
		before := b.n.Events()
		req, sent, e := b.ask(c.op, spot(0x50), c.text)
		if e != c.e || len(before) != 0 || len(sent) != 0 {
			t.Errorf("%d: %v, want %v", i, e, c.e)
		}
		if e != api.OK && (req != 0 || len(b.ev) != 0) {
			t.Errorf("%d: the number %d, and %d events", i, req, len(b.ev))
		}
		if want := int64(1<<32 + i - 7); e == api.OK && req != want {
			t.Errorf("%d: the number %d, want %d", i, req, want)
		}
	}
	// Of one that is down that is said behind ErrArg, ahead of ErrLong.
	b.power(0)
	if _, _, e := b.ask(2, spot(0x50), []byte("a")); e != api.ErrDown || !b.n.Down() {
		t.Errorf("without power: %v", e)
	}
	for _, c := range []struct {
		op   int
		text []byte
		e    api.Errno
	}{{0, longer, api.ErrArg}, {3, []byte{1}, api.ErrArg}, {1, longer, api.ErrDown}, {2, nil, api.ErrDown}, {3, nil, api.ErrDown}} {
		if _, _, e := b.ask(c.op, spot(0x50), c.text); e != c.e {
			t.Errorf("down: Ask(%d): %v, want %v", c.op, e, c.e)
		}
	}
}

// sentBodies are sends' frames, as bodies, each with its place.
func sentBodies(t *testing.T, l []node.Send) []msg {
	t.Helper()
	var out []msg
	for _, x := range l {
		out = append(out, msg{x.N, bodyOf(t, x.B)})
	}
	return out
}

// P20.1: links that rise, are up, fall; lists of whatever length; never the node's own place.
func TestLinks(t *testing.T) {
	b := begin(t, usual(), 9)
	greeting := func(to int, n int64) msg {
		return msg{to, frame.Hello{Mine: api.Num{Inc: 1, N: n}, ID: spot(0x50)}}
	}
	all := slices.Repeat([]bool{true}, 9)
	for i, c := range []struct {
		up   []bool
		want []msg
	}{
		{nil, nil},
		{[]bool{false, false, true}, nil},
		{all, []msg{greeting(0, 1), greeting(1, 2), greeting(3, 3), greeting(4, 4), greeting(5, 5)}},
		{all[:6], []msg{greeting(0, 1), greeting(1, 2), greeting(3, 3), greeting(4, 4), greeting(5, 5)}},
		{all[:2], []msg{greeting(0, 1), greeting(1, 2)}},
		{[]bool{false, true, true, true}, []msg{greeting(1, 2), greeting(3, 6)}},
		{nil, nil},
		{[]bool{true, false, true, false, false, true, true, true}, []msg{greeting(0, 7), greeting(5, 8)}},
	} {
		if got := sentBodies(t, b.tick(c.up)); !alike(got, c.want) {
			t.Errorf("%d: %v, want %v", i, got, c.want)
		}
		for j := range api.MaxNodes {
			if up := b.n.End(j).Up; up != (j < len(c.up) && c.up[j] && j != 2) {
				t.Errorf("%d: the end of %d: %v", i, j, up)
			}
		}
	}
}

// P20.1: places 0 and MaxNodes - 1 are like any other.
func TestOuterPlaces(t *testing.T) {
	for _, at := range []int{0, 5} {
		b := begin(t, node.Config{N: at, ID: spot(0x50), Half: 3, Paths: 1}, 9)
		for i := range api.MaxNodes {
			if i != at {
				b.join(i, spot(byte(16*i+1)))
			}
		}
		came, _ := b.round()
		if n := len(kinds(came, api.Ask)); n != 5 {
			t.Errorf("at %d: %d are asked", at, n)
		}
		if n := len(kinds(came, api.Advert)); n != 5 {
			t.Errorf("at %d: %d are told", at, n)
		}
	}
}

// P20.1: where a link falls the paths over it are dropped, what was heard is forgotten; all that ahead of the rest of the tick.
func TestFall(t *testing.T) {
	b := between(t)
	b.lay(key(7, 1), 0x70, 0x30, 3, 2, 1)
	b.lay(key(7, 2), 0x70, 0x50, 3, 2)
	b.lay(key(7, 3), 0x30, 0x70, 1, 2, 3)
	b.say(3, frame.Advert{ID: spot(1), Far: 1})
	b.leave(3)
	b.round()
	b.wants([]msg{
		{1, frame.Drop{P: key(7, 1)}},
		{1, frame.Drop{P: key(7, 3)}},
		{1, frame.Ask{Who: spot(0x50), Want: spot(0x30), Trail: []int{2}}},
		{1, frame.Advert{ID: spot(0x50)}},
	}, nil)
	if l := b.n.Entries(); len(l) != 0 {
		t.Errorf("left: %v", l)
	}
}

// P20.1: a Drop goes out to one whose link falls in the same tick, as its place comes later.
func TestFallOfTwo(t *testing.T) {
	b := between(t)
	b.lay(key(7, 1), 0x70, 0x30, 3, 2, 1)
	end := b.n.End(3)
	drop := encoded(frame.Plain(frame.Drop{P: key(7, 1)}))
	want := []msg{{3, frame.Data{From: end.Mine, To: end.Peer, N: end.Base + int64(len(end.Out)), Text: drop}}}
	if got := sentBodies(t, b.tick(nil)); !alike(got, want) {
		t.Errorf("sent: %v, want %v", got, want)
	}
	if b.n.End(1).Up || b.n.End(3).Up || len(b.n.Entries()) != 0 {
		t.Error("something is left")
	}
}

// P20.1: one that greets anew has died: the others are told first, then it is greeted, by a new number.
func TestDiedByGreeting(t *testing.T) {
	b := between(t)
	b.lay(key(7, 1), 0x30, 0x70, 1, 2, 3)
	b.say(3, frame.Advert{ID: spot(1), Far: 1})
	mine := b.n.End(3).Mine
	anew := frame.Hello{Mine: api.Num{Inc: 9, N: 1}, ID: spot(0x71)}
	got := sentBodies(t, b.hear(3, encoded(frame.Plain(anew))))
	end := b.n.End(1)
	drop := encoded(frame.Plain(frame.Drop{P: key(7, 1)}))
	want := []msg{
		{1, frame.Data{From: end.Mine, To: end.Peer, N: end.Base + int64(len(end.Out)) - 1, Text: drop}},
		{3, frame.Hello{Mine: api.Num{Inc: 1, N: mine.N + 1}, Seen: anew.Mine, ID: spot(0x50)}},
	}
	if !alike(got, want) {
		t.Fatalf("sent: %v, want %v", got, want)
	}
	// The number is taken: the next link gets another one. Where nobody dies none is taken.
	anew.Mine.N = 2
	b.hear(3, encoded(frame.Plain(anew)))
	if got := b.n.End(3).Mine; got != (api.Num{Inc: 1, N: mine.N + 1}) {
		t.Errorf("the number is %v", got)
	}
	b.join(5, spot(0xb0))
	if got := b.n.End(5).Mine; got != (api.Num{Inc: 1, N: mine.N + 2}) {
		t.Errorf("the next number is %v", got)
	}
	for _, x := range kinds(b.advertised(), api.Advert) {
		if x.Said != (frame.Advert{ID: spot(0x50)}) {
			t.Errorf("what was heard isn't forgotten: %v", x)
		}
	}
}

// advertised is what comes at the sides in a round.
func (b *bench) advertised() []msg {
	b.t.Helper()
	came, _ := b.round()
	return came
}

// P20.1: neighbours that are wanted are asked for, each by its session; friends aren't.
func TestAsksNeighbours(t *testing.T) {
	b := between(t)
	b.join(0, spot(0x10))
	b.join(4, spot(0x90))
	b.round()
	advert := frame.Advert{ID: spot(0x50)}
	b.wants([]msg{
		{1, frame.Ask{Who: spot(0x50), Want: spot(0x30), Trail: []int{2}}},
		{3, frame.Ask{Who: spot(0x50), Want: spot(0x70), Trail: []int{2}}},
		{0, advert}, {1, advert}, {3, advert}, {4, advert},
	}, nil)
	b.lay(key(7, 1), 0x70, 0x50, 3, 2)
	b.round()
	b.wants([]msg{
		{1, frame.Ask{Who: spot(0x50), Want: spot(0x30), Trail: []int{2}}},
		{3, frame.Peers{P: key(7, 1), ToA: true, IDs: []api.ID{spot(0x70)}}},
		{0, advert}, {1, advert}, {3, advert}, {4, advert},
	}, nil)
}

// P20.1: those of whom a path's other end told are asked for along it, once; the node itself isn't noted.
func TestAsksTold(t *testing.T) {
	for _, toA := range []bool{true, false} {
		b := between(t)
		p := key(7, 1)
		if toA {
			b.lay(p, 0x70, 0x50, 3, 2)
		} else {
			// The node is A: it begins the path itself.
			p = key(0x50, 1<<32+1)
			b.say(3, frame.Ask{Who: spot(0x70), Want: spot(0x50), Trail: []int{3}})
		}
		told := frame.Peers{P: p, ToA: !toA, IDs: []api.ID{spot(0x60), spot(0x50), spot(0x90), spot(0x60)}}
		b.say(3, told)
		b.wants(nil, nil)
		peers := msg{3, frame.Peers{P: p, ToA: toA, IDs: []api.ID{spot(0x70)}}}
		rest := []msg{peers, {1, frame.Advert{ID: spot(0x50)}}, {3, frame.Advert{ID: spot(0x50)}}}
		first := msg{1, frame.Ask{Who: spot(0x50), Want: spot(0x30), Trail: []int{2}}}
		second := msg{3, frame.Ask{Who: spot(0x50), Want: spot(0x60), Leg: 1, P: p, ToA: toA, Trail: []int{2}}}
		b.round()
		b.wants(append([]msg{first, second}, rest...), nil)
		b.round()
		b.wants(append([]msg{first}, rest...), nil)

		// A path that is gone by then, or that only goes through by then, tells of nobody.
		b.say(3, told)
		b.say(3, frame.Drop{P: p})
		b.say(1, frame.Setup{P: p, A: spot(0x30), B: spot(0x70), Trail: []int{1, 2, 3}})
		b.round()
		for _, x := range kinds(b.came, api.Ask) {
			if x.Said.(frame.Ask).Leg != 0 {
				t.Errorf("asked: %v", x)
			}
		}
	}
}

// P20.1: the least identity is asked for by the neighbour that told of it, and told to all; what a neighbour tells counts till it tells another.
func TestAsksLeast(t *testing.T) {
	c := usual()
	c.Half = 2
	b := betweenAs(t, c)
	b.say(1, frame.Advert{ID: spot(5), Far: 2})
	b.wants(nil, nil)
	b.say(3, frame.Advert{ID: spot(5), Far: 4})
	asks := []msg{
		{1, frame.Ask{Who: spot(0x50), Want: spot(0x30), Trail: []int{2}}},
		{3, frame.Ask{Who: spot(0x50), Want: spot(0x70), Trail: []int{2}}},
	}
	least := func(to int) []msg {
		return append([]msg{{to, frame.Ask{Who: spot(0x50), Want: spot(5), Leg: 3, Trail: []int{2}}}}, asks...)
	}
	adverts := func(far int64) []msg {
		return []msg{{1, frame.Advert{ID: spot(5), Far: far}}, {3, frame.Advert{ID: spot(5), Far: far}}}
	}
	b.round()
	b.wants(append(least(1), adverts(3)...), nil)
	b.say(1, frame.Advert{ID: spot(0x30)})
	b.round()
	b.wants(append(least(3), adverts(5)...), nil)
	b.say(3, frame.Advert{ID: spot(5), Far: 6})
	b.round()
	b.wants(append(asks, msg{1, frame.Advert{ID: spot(0x30), Far: 1}}, msg{3, frame.Advert{ID: spot(0x30), Far: 1}}), nil)
	b.say(3, frame.Advert{ID: spot(5), Far: 1<<63 - 1})
	b.say(1, frame.Advert{ID: spot(0x31), Far: 5})
	b.round()
	b.wants([]msg{asks[0], {1, frame.Ask{Who: spot(0x50), Want: spot(0x31), Leg: 3, Trail: []int{2}}}, asks[1],
		{1, frame.Advert{ID: spot(0x31), Far: 6}}, {3, frame.Advert{ID: spot(0x31), Far: 6}}}, nil)
}

// P20.1: of paths to one end all but the first are taken away; of those to ends that aren't wanted the other end is asked.
func TestTwinsAndSpare(t *testing.T) {
	b := between(t)
	b.lay(key(7, 1), 0x30, 0x50, 1, 2)
	b.lay(key(7, 2), 0x70, 0x50, 3, 2)
	b.lay(key(7, 5), 0x70, 0x50, 1, 2)
	b.lay(key(7, 4), 0x70, 0x50, 3, 2)
	b.lay(key(7, 6), 0x90, 0x50, 3, 2)
	b.lay(key(7, 7), 0x90, 0x50, 1, 2)
	b.lay(key(7, 8), 0x90, 0xf0, 1, 2, 3)
	b.round()
	peers := func(to int, n int64) msg {
		return msg{to, frame.Peers{P: key(7, n), ToA: true, IDs: []api.ID{spot(0x30), spot(0x70)}}}
	}
	b.wants([]msg{
		{3, frame.Drop{P: key(7, 4)}}, {1, frame.Drop{P: key(7, 5)}}, {1, frame.Drop{P: key(7, 7)}},
		{3, frame.Part{P: key(7, 6), ToA: true}},
		peers(1, 1), peers(3, 2), peers(3, 6),
		{1, frame.Advert{ID: spot(0x50)}}, {3, frame.Advert{ID: spot(0x50)}},
	}, nil)
	if l := b.n.Entries(); len(l) != 4 || l[0].P.N != 1 || l[1].P.N != 2 || l[2].P.N != 6 || l[3].P.N != 8 {
		t.Errorf("left: %v", l)
	}
}

// P20.1: a Part is followed, if the other end isn't wanted here either.
func TestPart(t *testing.T) {
	b := between(t)
	b.lay(key(7, 1), 0x30, 0x50, 1, 2)
	b.lay(key(7, 2), 0x70, 0x50, 3, 2)
	b.lay(key(7, 3), 0x90, 0x50, 3, 2)
	b.say(3, frame.Part{P: key(7, 2)})
	b.wants(nil, nil)
	b.say(3, frame.Part{P: key(7, 3)})
	b.wants([]msg{{3, frame.Drop{P: key(7, 3)}}}, nil)
	if l := b.n.Entries(); len(l) != 2 || l[0].P.N != 1 || l[1].P.N != 2 {
		t.Errorf("left: %v", l)
	}
	// With half 2 it is wanted.
	c := usual()
	c.Half = 2
	b = betweenAs(t, c)
	b.lay(key(7, 1), 0x30, 0x50, 1, 2)
	b.lay(key(7, 2), 0x70, 0x50, 3, 2)
	b.lay(key(7, 3), 0x90, 0x50, 3, 2)
	b.say(3, frame.Part{P: key(7, 3)})
	b.wants(nil, nil)
}

// P20.1: Setups are taken, sent on, refused.
func TestSetup(t *testing.T) {
	b := between(t)
	setup := func(n int64, a, z byte, way ...int) frame.Setup {
		return frame.Setup{P: key(7, n), A: spot(a), B: spot(z), Trail: way}
	}
	for _, c := range []struct {
		from int
		said frame.Setup
		want []msg
		x    api.Entry
	}{
		{3, setup(1, 0x70, 0x50, 3, 2), nil, api.Entry{P: key(7, 1), A: spot(0x70), B: spot(0x50), Na: 3, Nb: -1}},
		{1, setup(2, 0x10, 0x70, 0, 1, 2, 3), []msg{{3, setup(2, 0x10, 0x70, 0, 1, 2, 3)}}, api.Entry{P: key(7, 2), A: spot(0x10), B: spot(0x70), Na: 1, Nb: 3}},
		// No session with the next place; not this node; there already; no trail over this node, or not from there.
		{1, setup(3, 0x30, 0x90, 1, 2, 4), []msg{{1, frame.Drop{P: key(7, 3)}}}, api.Entry{}},
		{1, setup(3, 0x30, 0x51, 1, 2), []msg{{1, frame.Drop{P: key(7, 3)}}}, api.Entry{}},
		{3, setup(2, 0x70, 0x50, 3, 2), []msg{{3, frame.Drop{P: key(7, 2)}}}, api.Entry{P: key(7, 2), A: spot(0x10), B: spot(0x70), Na: 1, Nb: 3}},
		{3, setup(3, 0x70, 0x50, 1, 2), nil, api.Entry{}},
		{3, setup(3, 0x70, 0x50, 3, 1), nil, api.Entry{}},
		{3, setup(3, 0x70, 0x50, 2), nil, api.Entry{}},
		{3, setup(3, 0x70, 0x50), nil, api.Entry{}},
		{3, setup(3, 0x70, 0x50, 3, 1, 3, 2), nil, api.Entry{}},
		{1, setup(3, 0x50, 0x50, 1, 2), []msg{{1, frame.Drop{P: key(7, 3)}}}, api.Entry{}},
	} {
		b.say(c.from, c.said)
		b.wants(c.want, nil)
		if x, _ := b.entry(c.said.P); x != c.x {
			t.Errorf("%v: the entry is %v, want %v", c.said, x, c.x)
		}
	}
}

// P20.1: a table that is full, for Setups and for Asks; a table of one entry has room for one.
func TestFull(t *testing.T) {
	for _, paths := range []int{1, 128} {
		c := usual()
		c.Paths = paths
		b := betweenAs(t, c)
		for i := range paths {
			b.lay(key(7, int64(i)), 0x90, 0x91, 1, 2, 3)
		}
		b.say(1, frame.Setup{P: key(8, 1), A: spot(0x30), B: spot(0x70), Trail: []int{1, 2, 3}})
		b.wants([]msg{{1, frame.Drop{P: key(8, 1)}}}, []node.Event{{Kind: node.EvFull}})
		b.say(1, frame.Setup{P: key(8, 1), A: spot(0x30), B: spot(0x50), Trail: []int{1, 2}})
		b.wants([]msg{{1, frame.Drop{P: key(8, 1)}}}, []node.Event{{Kind: node.EvFull}})
		b.say(3, frame.Ask{Who: spot(0x70), Want: spot(0x50), Trail: []int{3}})
		b.wants(nil, []node.Event{{Kind: node.EvFull}})
		// One that is there already is refused, but not for want of room.
		b.say(1, frame.Setup{P: key(7, 0), A: spot(0x30), B: spot(0x50), Trail: []int{1, 2}})
		b.wants([]msg{{1, frame.Drop{P: key(7, 0)}}}, nil)
		// With room again the path's number is the first one: no other was taken.
		b.say(3, frame.Drop{P: key(7, 0)})
		b.wants([]msg{{1, frame.Drop{P: key(7, 0)}}}, nil)
		b.say(3, frame.Ask{Who: spot(0x70), Want: spot(0x50), Trail: []int{3}})
		p := key(0x50, 1<<32+1)
		b.wants([]msg{{3, frame.Setup{P: p, A: spot(0x50), B: spot(0x70), Trail: []int{2, 3}}}}, []node.Event{{Kind: node.EvMade, P: p, Dst: spot(0x70)}})
	}
}

// P20.1: a Drop takes the path away, from either side of it, and from nowhere else.
func TestDrop(t *testing.T) {
	b := between(t)
	b.join(4, spot(0x90))
	for _, from := range []int{1, 3} {
		b.lay(key(7, 1), 0x30, 0x70, 1, 2, 3)
		b.lay(key(7, 2), 0x30, 0x50, 1, 2)
		b.say(4, frame.Drop{P: key(7, 1)})
		b.say(from, frame.Drop{P: key(7, 9)})
		b.say(3, frame.Drop{P: key(7, 2)})
		if l := b.n.Entries(); len(l) != 2 {
			t.Fatalf("left: %v", l)
		}
		b.say(from, frame.Drop{P: key(7, 1)})
		b.wants([]msg{{4 - from, frame.Drop{P: key(7, 1)}}}, nil)
		b.say(1, frame.Drop{P: key(7, 2)})
		b.wants(nil, nil)
		if l := b.n.Entries(); len(l) != 0 {
			t.Fatalf("left: %v", l)
		}
	}
}

// P20.1: what goes along a path goes on as it is, both ways; nothing from the wrong side, from elsewhere, or of a path that isn't there.
func TestAlong(t *testing.T) {
	b := between(t)
	b.join(4, spot(0x90))
	p, q := key(7, 1), key(7, 2)
	b.lay(p, 0x30, 0x70, 1, 2, 3)
	x := api.Item{Key: spot(9), Ver: api.Ver{N: 4, Who: spot(8)}, Value: []byte("v")}
	along := func(p api.Path, toA bool) []frame.Body {
		return []frame.Body{
			frame.Part{P: p, ToA: toA},
			frame.Peers{P: p, ToA: toA, IDs: []api.ID{spot(1), spot(0x50)}},
			frame.Copy{P: p, ToA: toA, Item: x},
			frame.Got{P: p, ToA: toA, Key: x.Key, Ver: x.Ver},
			frame.Ask{Who: spot(0x30), Want: spot(0x50), Leg: 1, P: p, ToA: toA, Trail: []int{0, 5, 0}},
			frame.Ask{Who: spot(0x30), Want: spot(0x50), Leg: 2, P: p, ToA: toA},
		}
	}
	for _, toA := range []bool{false, true} {
		from, to := 1, 3
		if toA {
			from, to = to, from
		}
		for i, said := range along(p, toA) {
			for _, wrong := range []int{to, 4} {
				b.say(wrong, said)
				b.wants(nil, nil)
			}
			b.say(from, along(q, toA)[i])
			b.wants(nil, nil)
			want := said
			if a, ok := said.(frame.Ask); ok {
				a.Trail = append(slices.Clone(a.Trail), 2)
				want = a
			}
			b.say(from, said)
			b.wants([]msg{{to, want}}, nil)
		}
	}
	if len(b.n.Items()) != 0 || len(b.n.Entries()) != 1 {
		t.Error("what went by was taken")
	}
}

// P20.1: at an end of a path nothing is taken that comes as if from that end itself.
func TestWrongSideOfAnEnd(t *testing.T) {
	b := between(t)
	b.lay(key(7, 1), 0x70, 0x50, 3, 2)
	x := api.Item{Key: spot(9), Ver: api.Ver{N: 4}}
	for _, said := range []frame.Body{frame.Part{P: key(7, 1), ToA: true}, frame.Copy{P: key(7, 1), ToA: true, Item: x}, frame.Ask{Who: spot(0x70), Want: spot(0x50), Leg: 1, P: key(7, 1), ToA: true}} {
		for _, from := range []int{1, 3} {
			b.say(from, said)
			b.wants(nil, nil)
		}
	}
	if len(b.n.Items()) != 0 || len(b.n.Entries()) != 1 {
		t.Error("something was taken")
	}
}

// P20.1: a Copy is kept, if it is newer, and answered by a Got, if it isn't refused.
func TestCopy(t *testing.T) {
	b := between(t)
	p := key(7, 1)
	b.lay(p, 0x70, 0x50, 3, 2)
	copyOf := func(n int64, value string) frame.Copy {
		return frame.Copy{P: p, Item: api.Item{Key: spot(9), Ver: api.Ver{N: n, Who: spot(8)}, Value: []byte(value)}}
	}
	got := func(n int64) []msg {
		return []msg{{3, frame.Got{P: p, ToA: true, Key: spot(9), Ver: api.Ver{N: n, Who: spot(8)}}}}
	}
	for _, c := range []struct {
		said frame.Copy
		want []msg
		kept string
	}{
		{copyOf(0, "a"), nil, ""},
		{copyOf(1<<62, "a"), nil, ""},
		{copyOf(5, "b"), got(5), "b"},
		{copyOf(5, "c"), got(5), "b"},
		{copyOf(4, "d"), got(4), "b"},
		{copyOf(1<<62-1, "e"), got(1<<62 - 1), "e"},
		{copyOf(0, "f"), nil, "e"},
	} {
		b.say(3, c.said)
		b.wants(c.want, nil)
		l := b.n.Items()
		if c.kept == "" && len(l) != 0 || c.kept != "" && (len(l) != 1 || string(l[0].Value) != c.kept) {
			t.Errorf("%v: kept: %v", c.said, l)
		}
	}
}

// P20.1: a disk without room refuses Copies, and a put is answered so.
func TestNoRoom(t *testing.T) {
	b := begin(t, usual(), 4)
	b.join(3, spot(0x70))
	b.lay(key(7, 1), 0x70, 0x50, 3, 2)
	b.say(3, frame.Copy{P: key(7, 1), Item: api.Item{Key: spot(9), Ver: api.Ver{N: 1}}})
	if len(b.came) != 1 {
		t.Fatalf("came: %v", b.came)
	}
	b.say(3, frame.Copy{P: key(7, 1), Item: api.Item{Key: spot(9), Ver: api.Ver{N: 2}}})
	b.wants(nil, nil)
	req, _, _ := b.request(api.OpPut, spot(0x50), []byte("x"))
	b.wants(nil, []node.Event{{Kind: node.EvAnswer, Src: spot(0x50), Dst: spot(0x50), Req: req, Op: api.OpAnswer, Code: api.ErrFull}})
	b.say(3, frame.Packet{Src: spot(0x70), Dst: spot(0x50), Req: 5, Op: api.OpPut, TTL: 3, Item: api.Item{Value: []byte("x")}})
	answer := frame.Packet{Src: spot(0x50), Dst: spot(0x70), Req: 5, Op: api.OpAnswer, TTL: 63, Text: []byte{byte(api.ErrFull)}}
	b.wants([]msg{{3, answer}}, []node.Event{{Kind: node.EvStep, Src: spot(0x50), Dst: spot(0x70), Req: 5, Op: api.OpAnswer, TTL: 64, Choice: route.Choice{ID: spot(0x70), Near: true, N: 3}}})
	if b.n.Down() || len(b.n.Items()) != 1 {
		t.Error("what was refused is kept, or it is down")
	}
}

// P20.1: items are handed on along the first path to each one to whom they are owed, till that one's Got; again, if there is another version, or the friend was gone.
func TestHandsOn(t *testing.T) {
	b := between(t)
	b.lay(key(7, 1), 0x30, 0x50, 1, 2)
	b.lay(key(7, 2), 0x70, 0x50, 3, 2)
	b.request(api.OpPut, spot(0x50), []byte("a"))
	a := api.Item{Key: spot(0x50), Ver: api.Ver{N: 1, Who: spot(0x50)}, Value: []byte("a")}
	copyTo := func(n int64, x api.Item) msg {
		return msg{2*int(n) - 1, frame.Copy{P: key(7, n), ToA: true, Item: x}}
	}
	handed := func(want ...msg) {
		t.Helper()
		came, _ := b.round()
		if got := kinds(came, api.Copy, api.Got); !alike(got, want) {
			t.Errorf("handed on:\n%v, want\n%v", got, want)
		}
		if n := len(came); n > len(want) && came[n-1].Said.Kind() == api.Advert && len(want) > 0 {
			t.Error("an Advert comes behind a Copy")
		}
	}
	handed(copyTo(1, a), copyTo(2, a))
	handed(copyTo(1, a), copyTo(2, a))
	b.say(1, frame.Got{P: key(7, 1), Key: a.Key, Ver: a.Ver})
	b.wants(nil, nil)
	handed(copyTo(2, a))
	// Another version than is kept, another key, another path's other end: nothing of that counts.
	b.say(3, frame.Got{P: key(7, 2), Key: a.Key, Ver: api.Ver{N: 2, Who: spot(0x50)}})
	b.say(3, frame.Got{P: key(7, 2), Key: spot(0x51), Ver: a.Ver})
	b.say(3, frame.Got{P: key(7, 1), Key: a.Key, Ver: a.Ver})
	handed(copyTo(2, a))
	b.say(3, frame.Got{P: key(7, 2), Key: a.Key, Ver: a.Ver})
	handed()
	b.request(api.OpPut, spot(0x50), []byte("b"))
	a.Ver.N, a.Value = 2, []byte("b")
	handed(copyTo(1, a), copyTo(2, a))
	for _, i := range []int{1, 3} {
		b.say(i, frame.Got{P: key(7, int64(i+1)/2), Key: a.Key, Ver: a.Ver})
	}
	handed()
	// Whoever comes again is handed all again; the other one isn't.
	b.say(3, frame.Drop{P: key(7, 2)})
	handed()
	b.lay(key(7, 2), 0x70, 0x50, 3, 2)
	handed(copyTo(2, a))
	// One that is nearer to a key than the node is handed it alone.
	b.say(3, frame.Got{P: key(7, 2), Key: a.Key, Ver: a.Ver})
	x := api.Item{Key: spot(0x31), Ver: api.Ver{N: 3}}
	b.say(3, frame.Copy{P: key(7, 2), Item: x})
	handed(copyTo(1, x))
}

// P20.1: the legs of an Ask that has come to the node.
func TestAskLegs(t *testing.T) {
	ask := func(leg int, want byte, p api.Path, toA bool, way ...int) frame.Ask {
		return frame.Ask{Who: spot(0x90), Want: spot(want), Leg: leg, P: p, ToA: toA, Trail: way}
	}
	p, q, none := key(7, 1), key(7, 2), api.Path{}
	made := key(0x50, 1<<32+1)
	ev := []node.Event{{Kind: node.EvMade, P: made, Dst: spot(0x90)}}
	laid := func(way ...int) []msg {
		return []msg{{way[1], frame.Setup{P: made, A: spot(0x50), B: spot(0x90), Trail: way}}}
	}
	for i, c := range []struct {
		from int
		said frame.Ask
		came []msg
		ev   []node.Event
	}{
		// Directly: the node itself, or nobody.
		{1, ask(0, 0x50, none, false, 1), laid(2, 1), ev},
		{1, ask(0, 0x50, p, true, 4, 1), laid(2, 1, 4), ev},
		{1, ask(0, 0x70, none, false, 1), nil, nil},
		{1, ask(0, 0x05, none, false, 1), nil, nil},
		// Along an own path: the node itself, one to whom it has a path, or nobody.
		{3, ask(1, 0x50, p, false, 4, 3), laid(2, 3, 4), ev},
		{3, ask(1, 0x30, p, false, 4, 3), []msg{{1, ask(2, 0x30, q, true, 4, 3, 2)}}, nil},
		{3, ask(1, 0x70, p, false, 4, 3), []msg{{3, ask(2, 0x70, p, true, 4, 3, 2)}}, nil},
		{3, ask(1, 0x90, p, false, 4, 3), nil, nil},
		{3, ask(1, 0x05, p, false, 4, 3), nil, nil},
		{3, ask(1, 0x30, p, true, 4, 3), nil, nil},
		{1, ask(1, 0x50, p, false, 4, 1), nil, nil},
		{3, ask(1, 0x50, none, false, 4, 3), nil, nil},
		// The second path: the node itself, or nobody.
		{3, ask(2, 0x50, p, false, 4, 3), laid(2, 3, 4), ev},
		{3, ask(2, 0x30, p, false, 4, 3), nil, nil},
		{3, ask(2, 0x05, p, false, 4, 3), nil, nil},
		{1, ask(2, 0x50, p, false, 4, 1), nil, nil},
		// Towards the least one: the node itself, the least one that it knows of, or nobody.
		{1, ask(3, 0x50, none, false, 1), laid(2, 1), ev},
		{1, ask(3, 0x05, none, false, 1), []msg{{3, ask(3, 0x05, none, false, 1, 2)}}, nil},
		{3, ask(3, 0x05, q, true, 1), []msg{{3, ask(3, 0x05, q, true, 1, 2)}}, nil},
		{1, ask(3, 0x06, none, false, 1), nil, nil},
		{1, ask(3, 0x70, none, false, 1), nil, nil},
	} {
		b := between(t)
		b.lay(p, 0x70, 0x50, 3, 2)
		b.lay(q, 0x30, 0x50, 1, 2)
		b.say(3, frame.Advert{ID: spot(0x05), Far: 0})
		b.say(c.from, c.said)
		b.wants(c.came, c.ev)
		if t.Failed() {
			t.Fatalf("of the Ask %d, %+v", i, c.said)
		}
	}
}

// P20.1: the least one is told by nobody: then no Ask goes towards it.
func TestNoLeast(t *testing.T) {
	b := between(t)
	b.say(1, frame.Ask{Who: spot(0x90), Want: spot(0x05), Leg: 3, Trail: []int{1}})
	b.wants(nil, nil)
	b.say(1, frame.Advert{ID: spot(0x05), Far: 6})
	b.say(1, frame.Ask{Who: spot(0x90), Want: spot(0x05), Leg: 3, Trail: []int{1}})
	b.wants(nil, nil)
}

// P20.1: a Trail of MaxTTL places ends an Ask; with one less it may be taken, and goes on with MaxTTL.
func TestLongTrails(t *testing.T) {
	for _, leg := range []int{0, 1, 2, 3} {
		b := between(t)
		p := key(7, 1)
		b.lay(p, 0x70, 0x50, 3, 2)
		b.say(3, frame.Advert{ID: spot(5)})
		long := slices.Repeat([]int{1, 3}, 32)
		b.say(3, frame.Ask{Who: spot(0x90), Want: spot(0x50), Leg: leg, P: p, Trail: long})
		b.wants(nil, nil)
		b.say(3, frame.Ask{Who: spot(0x90), Want: spot(0x50), Leg: leg, P: p, Trail: long[1:]})
		made := key(0x50, 1<<32+1)
		b.wants([]msg{{3, frame.Setup{P: made, A: spot(0x50), B: spot(0x90), Trail: []int{2, 3}}}}, []node.Event{{Kind: node.EvMade, P: made, Dst: spot(0x90)}})
	}
	b := between(t)
	b.lay(key(7, 1), 0x30, 0x70, 1, 2, 3)
	long := slices.Repeat([]int{1, 3}, 32)
	a := frame.Ask{Who: spot(0x90), Want: spot(0x70), Leg: 1, P: key(7, 1), Trail: long}
	b.say(1, a)
	b.wants(nil, nil)
	a.Trail = long[1:]
	b.say(1, a)
	a.Trail = append(slices.Clone(long[1:]), 2)
	b.wants([]msg{{3, a}}, nil)
	b.say(3, frame.Advert{ID: spot(5)})
	b.say(1, frame.Ask{Who: spot(0x90), Want: spot(5), Leg: 3, Trail: long})
	b.wants(nil, nil)
}

// P20.1: who is accepted: none that is the node itself, or to whom there is a path; the way goes back without its rounds, and must be one.
func TestAccepted(t *testing.T) {
	ask := func(who byte, way ...int) frame.Ask {
		return frame.Ask{Who: spot(who), Want: spot(0x50), Trail: way}
	}
	b := between(t)
	b.lay(key(7, 1), 0x70, 0x50, 3, 2)
	b.lay(key(7, 2), 0x10, 0x30, 1, 2, 3)
	for _, said := range []frame.Ask{
		ask(0x50, 1), ask(0x70, 1), ask(0x90), ask(0x90, 2), ask(0x90, 1, 4), ask(0x90, 2, 4, 2, 1, 5), ask(0x90, 2, 1, 3, 2),
	} {
		b.say(1, said)
		b.wants(nil, nil)
	}
	n := int64(1 << 32)
	for i, c := range []struct {
		who  byte
		way  []int
		laid []int
	}{
		{0x90, []int{1}, []int{2, 1}},
		{0x91, []int{0, 4, 0, 1}, []int{2, 1, 0}},
		{0x92, []int{5, 1, 4, 1, 4, 1}, []int{2, 1, 5}},
		{0x93, []int{4, 2, 5, 3}, []int{2, 4}},
		{0x10, []int{3, 1, 0, 3}, []int{2, 3}},
	} {
		if i == 3 {
			b.join(4, spot(0xa0))
		}
		n++
		b.say(1, ask(c.who, c.way...))
		p := key(0x50, n)
		b.wants([]msg{{c.laid[1], frame.Setup{P: p, A: spot(0x50), B: spot(c.who), Trail: c.laid}}}, []node.Event{{Kind: node.EvMade, P: p, Dst: spot(c.who)}})
		if x, _ := b.entry(p); x != (api.Entry{P: p, A: spot(0x50), B: spot(c.who), Na: -1, Nb: c.laid[1]}) {
			t.Errorf("the entry is %v", x)
		}
		// Asked for once more there is a path.
		b.say(1, ask(c.who, c.way...))
		b.wants(nil, nil)
	}
}

// P20.1: a key that somebody else used isn't used again, nor passed over.
func TestKeyInUse(t *testing.T) {
	b := between(t)
	p := key(0x50, 1<<32+1)
	b.lay(p, 0x10, 0x90, 1, 2, 3)
	ask := frame.Ask{Who: spot(0x30), Want: spot(0x50), Trail: []int{1}}
	b.say(1, ask)
	b.wants(nil, nil)
	b.say(1, frame.Drop{P: p})
	b.say(1, ask)
	b.wants([]msg{{1, frame.Setup{P: p, A: spot(0x50), B: spot(0x30), Trail: []int{2, 1}}}}, []node.Event{{Kind: node.EvMade, P: p, Dst: spot(0x30)}})
}

// P20.1: what isn't said within a session is passed over there, and what says nothing within it.
func TestPassedOver(t *testing.T) {
	b := between(t)
	b.lay(key(7, 1), 0x70, 0x50, 3, 2)
	for _, said := range []frame.Body{
		frame.Setup{P: key(7, 2), A: spot(0x70), B: spot(0x50), Trail: []int{3, 2}}, frame.Drop{P: key(7, 1)}, frame.Part{P: key(7, 1)},
		frame.Ask{Who: spot(0x30), Want: spot(0x50), Trail: []int{3}}, frame.Advert{ID: spot(1)},
		frame.Packet{Src: spot(0x70), Dst: spot(0x50), Op: 1, TTL: 1}, frame.Copy{P: key(7, 1), Item: api.Item{Ver: api.Ver{N: 1}}},
	} {
		if sent := b.hear(3, encoded(frame.Plain(said))); len(sent) != 0 {
			t.Errorf("%v outside a session: %s", said, shown(sent))
		}
	}
	end := b.n.End(3)
	for _, said := range []frame.Body{
		frame.Hello{Mine: api.Num{Inc: 99, N: 1}, ID: spot(1)}, frame.Ack{From: end.Peer, To: end.Mine, N: 1},
		frame.Data{From: end.Peer, To: end.Mine, N: end.Got + 2, Text: encoded(frame.Plain(frame.Drop{P: key(7, 1)}))},
	} {
		b.say(3, said)
		b.wants(nil, nil)
	}
	for _, text := range [][]byte{nil, {0}, {99}, append(encoded(frame.Plain(frame.Drop{P: key(7, 1)})), 0), bytes.Repeat([]byte{1, 5}, 2000)} {
		f, e := b.sides[3].end.Send(text)
		if e != api.OK {
			t.Fatal(e)
		}
		b.forget()
		b.reach(b.hear(3, encoded(f)))
		b.wants(nil, nil)
	}
	if l := b.n.Entries(); len(l) != 1 || len(b.n.Items()) != 0 {
		t.Errorf("left: %v", l)
	}
}

// P20.1: bytes that are no frame, places that are none, places whose link is down.
func TestWrongBytesAndPlaces(t *testing.T) {
	b := between(t)
	b.lay(key(7, 1), 0x70, 0x50, 3, 2)
	good := b.within(3, frame.Drop{P: key(7, 1)})
	for i := range good {
		if sent := b.hear(3, good[:i]); len(sent) != 0 {
			t.Errorf("cut at %d: %s", i, shown(sent))
		}
	}
	for _, x := range [][]byte{append(slices.Clone(good), 0), {1, 13}, {2, 1, 0}, {9}, {0}, bytes.Repeat([]byte{0xff}, 5000)} {
		if sent := b.hear(3, x); len(sent) != 0 {
			t.Errorf("% x: %s", x, shown(sent))
		}
	}
	hello := encoded(frame.Plain(frame.Hello{Mine: api.Num{Inc: 1, N: 1}, ID: spot(9)}))
	for _, from := range []int{-1, 6, 7, -1 << 63, 1<<63 - 1, 2, 0, 4, 5} {
		for _, x := range [][]byte{good, hello, nil} {
			if sent := b.hear(from, x); len(sent) != 0 {
				t.Errorf("from %d: %s", from, shown(sent))
			}
		}
	}
	if len(b.n.Entries()) != 1 {
		t.Error("the path is gone")
	}
	b.reach(b.hear(3, good))
	if len(b.n.Entries()) != 0 {
		t.Error("the path isn't gone")
	}
}

// P20.1: of each place that there is, its end; of others nothing.
func TestEnds(t *testing.T) {
	b := between(t)
	for _, i := range []int{-1, 6, 1 << 62, -1 << 63} {
		if x := b.n.End(i); !alike(x, node.End{}) {
			t.Errorf("End(%d): %v", i, x)
		}
	}
	for _, i := range []int{0, 2, 4, 5} {
		if x := b.n.End(i); !alike(x, node.End{Base: 1}) {
			t.Errorf("End(%d): %v", i, x)
		}
	}
	b.sides[3].mute = true
	b.say(1, frame.Packet{Src: spot(0x30), Dst: spot(0x70), Op: 1, TTL: 9})
	x := b.n.End(3)
	base := x.Base
	mine, _ := b.sides[3].end.Pair()
	want := node.End{Up: true, Open: true, Mine: x.Mine, Peer: mine, ID: spot(0x70), Base: base,
		Out: [][]byte{encoded(frame.Plain(frame.Packet{Src: spot(0x30), Dst: spot(0x70), Op: 1, TTL: 8}))}}
	if !alike(x, want) {
		t.Errorf("End(3): %+v, want %+v", x, want)
	}
	b.hear(3, encoded(frame.Plain(frame.Ack{From: x.Peer, To: x.Mine, N: base})))
	want.Base, want.Out = base+1, nil
	if x := b.n.End(3); !alike(x, want) {
		t.Errorf("End(3): %+v, want %+v", x, want)
	}
	if b.n.End(1).Got != 1 {
		t.Errorf("End(1).Got: %d", b.n.End(1).Got)
	}
}

// fill is a vault's disk with one item.
func fill(t *testing.T, d *disk.Disk, x api.Item) {
	t.Helper()
	v, e := vault.Open(d)
	if e == api.OK {
		_, e = v.Merge(x)
	}
	if e != api.OK {
		t.Fatal(e)
	}
}

// P20.1: what a disk kept ahead is there, and is counted on: beginnings, items, versions.
func TestBeginsAgain(t *testing.T) {
	b := &bench{t: t, c: usual(), d: disk.New(40), md: disk.New(40)}
	x := api.Item{Key: spot(0x50), Ver: api.Ver{N: 7, Who: spot(1)}, Value: []byte("old")}
	fill(t, b.d, x)
	fill(t, b.md, x)
	b.again()
	if b.n.Inc() != 2 || !alike(b.n.Items(), []api.Item{x}) {
		t.Fatalf("Inc %d, items %v", b.n.Inc(), b.n.Items())
	}
	req, _, ev := b.request(api.OpPut, spot(0x50), []byte("new"))
	x.Ver, x.Value = api.Ver{N: 8, Who: spot(0x50)}, []byte("new")
	if req != 2<<32+1 || len(ev) != 2 || !alike(ev[0].Item, x) || !alike(ev[1].Item, x) {
		t.Errorf("the request %d: %v", req, ev)
	}
	b.join(3, spot(0x70))
	if b.n.End(3).Mine != (api.Num{Inc: 2, N: 1}) {
		t.Errorf("the session's number: %v", b.n.End(3).Mine)
	}
	b.lay(key(7, 1), 0x70, 0x50, 3, 2)
	b.again()
	if b.n.Inc() != 3 || !alike(b.n.Items(), []api.Item{x}) || len(b.n.Entries()) != 0 || b.n.End(3).Up {
		t.Errorf("begun again: Inc %d, items %v, entries %v", b.n.Inc(), b.n.Items(), b.n.Entries())
	}
}
