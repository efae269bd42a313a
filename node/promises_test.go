package node_test

import (
	"bytes"
	"math/rand"
	"slices"
	"testing"

	"annulet/api"
	"annulet/disk"
	"annulet/frame"
	"annulet/node"
	"annulet/vault"
)

// writing are calls that write: at a node with an own path to 0x70, by key 7 1.
func writing() []func(b *bench) []node.Send {
	item := func(value []byte) api.Item {
		return api.Item{Key: spot(9), Ver: api.Ver{N: 1 << 40, Who: spot(8)}, Value: value}
	}
	asks := func(dst byte, value []byte) func(b *bench) []node.Send {
		return func(b *bench) []node.Send {
			req, sent, e := b.ask(api.OpPut, spot(dst), value)
			if b.n.Down() != (e == api.ErrDown) || b.n.Down() && req != 0 {
				b.t.Errorf("down: %v, Ask: %d, %v", b.n.Down(), req, e)
			}
			return sent
		}
	}
	hears := func(said frame.Body) func(b *bench) []node.Send {
		return func(b *bench) []node.Send { return b.hear(3, b.within(3, said)) }
	}
	long := bytes.Repeat([]byte{'v'}, 64)
	return []func(b *bench) []node.Send{
		asks(0x50, nil), asks(0x51, long),
		hears(frame.Packet{Src: spot(0x70), Dst: spot(0x50), Req: 4, Op: api.OpPut, TTL: 4, Item: item([]byte("a"))}),
		hears(frame.Packet{Src: spot(0x51), Dst: spot(0x50), Op: api.OpPut, Item: item(long)}),
		hears(frame.Copy{P: key(7, 1), Item: item([]byte("a"))}),
		hears(frame.Copy{P: key(7, 1), Item: item(long)}),
	}
}

// ready is a node at which any of these calls writes, with one item kept, and events that were not asked for yet, if so wished.
func ready(t *testing.T, held bool) *bench {
	t.Helper()
	b := between(t)
	b.lay(key(7, 1), 0x70, 0x50, 3, 2)
	b.request(api.OpPut, spot(0x50), []byte("old"))
	b.forget()
	b.held = held
	b.request(api.OpSend, spot(0x50), []byte("seen"))
	return b
}

// P20.1, P20.3: power that fails at each write of each call: nothing is told, nothing has happened; from then on nothing is told or done, with power again or without; what was answered OK is there at the next beginning.
func TestPowerFailsAtEachWrite(t *testing.T) {
	for i, call := range writing() {
		b := ready(t, false)
		done := b.d.Done()
		call(b)
		writes := b.d.Done() - done
		if writes < 2 {
			t.Fatalf("the call %d writes %d times", i, writes)
		}
		for k := range writes + 1 {
			for _, held := range []bool{false, true} {
				b := ready(t, held)
				items, entries := b.n.Items(), b.n.Entries()
				b.forget()
				b.power(k)
				sent := call(b)
				if k == writes {
					if b.n.Down() || alike(b.n.Items(), items) {
						t.Errorf("the call %d with power for all of it: %v", i, b.n.Items())
					}
					continue
				}
				if !b.n.Down() || len(sent) != 0 || len(b.ev) != 0 || len(b.n.Events()) != 0 {
					t.Errorf("the call %d, with %d writes: down %v, sends %v, events %v", i, k, b.n.Down(), sent, b.ev)
				}
				staysDown(t, b)
				if !alike(b.n.Items(), items) || !alike(b.n.Entries(), entries) {
					t.Errorf("the call %d, with %d writes: how it stands isn't as it was", i, k)
				}
				b.power(-1)
				staysDown(t, b)
				if e := b.again(); e != api.OK || !alike(b.n.Items(), items) {
					t.Errorf("the call %d, with %d writes: begun again: %v, %v", i, k, e, b.n.Items())
				}
			}
		}
	}
}

// staysDown sees that a node that is down tells and does nothing, whatever it is told.
func staysDown(t *testing.T, b *bench) {
	t.Helper()
	done, before := b.d.Done(), b.d.Bytes()
	ends := func() []node.End {
		var l []node.End
		for i := range api.MaxNodes {
			l = append(l, b.n.End(i))
		}
		return l
	}
	stood := ends()
	for _, said := range []frame.Body{frame.Drop{P: key(7, 1)}, frame.Packet{Src: spot(0x70), Dst: spot(0x50), Op: api.OpSend, TTL: 3}, frame.Copy{P: key(7, 1), Item: api.Item{Ver: api.Ver{N: 9}}}} {
		if sent := b.hear(3, b.within(3, said)); len(sent) != 0 {
			t.Errorf("it is down, and sends %s", shown(sent))
		}
	}
	for _, up := range [][]bool{b.up, nil, slices.Repeat([]bool{true}, 6)} {
		if sent := b.tick(up); len(sent) != 0 {
			t.Errorf("it is down, and sends %s", shown(sent))
		}
	}
	for _, op := range []int{api.OpSend, api.OpPut, api.OpGet} {
		if req, sent, e := b.ask(op, spot(0x50), nil); req != 0 || len(sent) != 0 || e != api.ErrDown {
			t.Errorf("it is down, and Ask answers %d, %v, %v", req, sent, e)
		}
	}
	if !b.n.Down() || len(b.n.Events()) != 0 || !alike(ends(), stood) || b.d.Done() != done || !bytes.Equal(b.d.Bytes(), before) {
		t.Error("it is down, and something is done")
	}
}

// P20.1: calls that write nothing need no power; one that refuses a put for its form either.
func TestNeedsNoPower(t *testing.T) {
	b := ready(t, false)
	b.power(0)
	b.round()
	b.say(1, frame.Packet{Src: spot(0x30), Dst: spot(0x50), Op: api.OpSend, TTL: 3, Text: []byte("a")})
	b.say(1, frame.Packet{Src: spot(0x30), Dst: spot(0x50), Op: api.OpGet, TTL: 3})
	b.say(1, frame.Packet{Src: spot(0x30), Dst: spot(0x70), Op: api.OpPut, TTL: 3})
	b.say(3, frame.Copy{P: key(7, 1), Item: api.Item{Key: spot(0x50), Ver: api.Ver{N: 1}}})
	b.say(3, frame.Copy{P: key(7, 1), Item: api.Item{Key: spot(0x51)}})
	b.say(1, frame.Ask{Who: spot(0x30), Want: spot(0x50), Trail: []int{1}})
	b.request(api.OpSend, spot(0x70), []byte("a"))
	b.request(api.OpPut, spot(0x70), []byte("a"))
	b.request(api.OpGet, spot(0x50), nil)
	if b.n.Down() || len(b.ev) != 1 {
		t.Errorf("down: %v, events: %v", b.n.Down(), b.ev)
	}
}

// P20.1, P20.3: power that fails at each write of New: no node; begun again nothing is lost.
func TestPowerFailsInNew(t *testing.T) {
	b := ready(t, false)
	items := b.n.Items()
	for k := range 2 {
		b.power(k)
		if e := b.again(); e != api.ErrDown {
			t.Errorf("New with %d writes: %v", k, e)
		}
	}
	b.power(2)
	if e := b.again(); e != api.OK || b.n.Inc() != 2 || !alike(b.n.Items(), items) {
		t.Errorf("New with 2 writes: %v", e)
	}
}

// numbers are keys of paths and numbers of requests that one node gave.
type numbers struct {
	t    *testing.T
	keys map[api.Path]int
	reqs map[int64]int
}

func (s *numbers) key(p api.Path) {
	if s.keys[p]++; s.keys[p] > 1 {
		s.t.Errorf("the key %v comes twice", p)
	}
}

func (s *numbers) req(n int64) {
	if s.reqs[n]++; s.reqs[n] > 1 {
		s.t.Errorf("the number %d comes twice", n)
	}
}

// gather looks through what happened, and what came at the sides: each path that was begun comes there as a Setup.
func (s *numbers) gather(came []msg, ev []node.Event) {
	for _, e := range ev {
		if e.Kind == node.EvMade {
			s.key(e.P)
		}
	}
	for _, x := range came {
		if f, ok := x.Said.(frame.Setup); ok && s.keys[f.P] != 1 {
			s.t.Errorf("the path %v is laid, and wasn't begun", f.P)
		}
	}
}

// P20.2: over many beginnings on one disk, ended at any time, by power that fails or without: no key and no number comes twice.
func TestNumbersNeverTwice(t *testing.T) {
	for seed := range int64(6) {
		r := rand.New(rand.NewSource(seed))
		s := &numbers{t: t, keys: map[api.Path]int{}, reqs: map[int64]int{}}
		c := usual()
		c.Paths = 3
		b := begin(t, c, 400)
		inc := b.n.Inc()
		for range 60 {
			b.power([]int{-1, 0, 1, 2, 3, 4, 7}[r.Intn(7)])
			for step := r.Intn(12); step > 0 && !b.n.Down(); step-- {
				s.step(b, r)
			}
			for e := b.again(); e != api.OK; e = b.again() {
				if e != api.ErrDown {
					t.Fatal(e)
				}
				b.power(r.Intn(4))
			}
			if b.n.Inc() <= inc {
				t.Fatalf("the beginning %d comes behind %d", b.n.Inc(), inc)
			}
			inc = b.n.Inc()
		}
		if len(s.keys) < 20 || len(s.reqs) < 60 {
			t.Errorf("just %d keys and %d numbers", len(s.keys), len(s.reqs))
		}
	}
}

// step is a request, or a path that is laid or taken away, or refused.
func (s *numbers) step(b *bench, r *rand.Rand) {
	i := []int{1, 3}[r.Intn(2)]
	if b.sides[i] == nil {
		b.join(i, spot(byte(i)))
		return
	}
	switch r.Intn(4) {
	case 0, 1:
		b.forget()
		op := 1 + r.Intn(2)
		if req, sent, e := b.ask(op, spot(byte(r.Intn(256))), []byte("v")); e == api.OK {
			s.req(req)
			b.reach(sent)
		}
		s.gather(b.came, b.ev)
	case 2:
		s.gather(b.say(i, frame.Ask{Who: spot(byte(100 + r.Intn(3))), Want: spot(0x50), Trail: []int{[]int{i, i, 5}[r.Intn(3)]}}))
	case 3:
		if l := b.n.Entries(); len(l) > 0 {
			x := l[r.Intn(len(l))]
			s.gather(b.say(x.Nb, frame.Drop{P: x.P}))
		}
	}
}

// told are the items that the node tells as kept here, by sends and by what happened: Gots, answers OK with an item, EvKept, EvAnswer OK.
func (b *bench) told(sent []node.Send) []api.Item {
	b.t.Helper()
	var l []api.Item
	for _, x := range sent {
		d, ok := bodyOf(b.t, x.B).(frame.Data)
		if !ok {
			continue
		}
		switch f := bodyOf(b.t, d.Text).(type) {
		case frame.Got:
			// Others' Gots go by here.
			if y, _ := b.entry(f.P); y.Na == -1 || y.Nb == -1 {
				l = append(l, api.Item{Key: f.Key, Ver: f.Ver})
			}
		case frame.Packet:
			if f.Op == api.OpAnswer && f.Src == b.c.ID && f.Text[0] == byte(api.OK) && f.Item.Ver.N > 0 {
				l = append(l, f.Item)
			}
		}
	}
	for _, e := range b.ev {
		if e.Kind == node.EvKept || e.Kind == node.EvAnswer && e.Src == b.c.ID && e.Code == api.OK && e.Item.Ver.N > 0 {
			l = append(l, e.Item)
		}
	}
	return l
}

// onDisk sees that an item, or a newer one of its key, is kept on a disk.
func onDisk(t *testing.T, d *disk.Disk, items []api.Item) {
	t.Helper()
	if len(items) == 0 {
		return
	}
	// With some more room, as a beginning is written there.
	twin, _ := disk.Of(append(d.Bytes(), make([]byte, 4*api.Sector)...))
	v, e := vault.Open(twin)
	if e != api.OK {
		t.Fatalf("the disk holds no vault: %v", e)
	}
	for _, x := range items {
		y, there := v.Get(x.Key)
		if !there || vault.Newer(x.Ver, y.Ver) {
			t.Fatalf("%v was told, and the disk has %v", x, y)
		}
		if y.Ver == x.Ver && x.Value != nil && !bytes.Equal(x.Value, y.Value) {
			t.Fatalf("%v was told, and the disk has %v", x, y)
		}
	}
}

// P20.3: rows of puts and copies, with power for any number of writes: as soon as one is told as kept it is on the disk, and it stays there, over beginnings too.
func TestTellsNothingThatIsntKept(t *testing.T) {
	for seed := range int64(4) {
		for k := range 70 {
			r := rand.New(rand.NewSource(seed))
			b := between(t)
			b.lay(key(7, 1), 0x70, 0x50, 3, 2)
			b.power(k)
			var all []api.Item
			for range 25 {
				b.forget()
				sent := keepStep(b, r)
				now := b.told(sent)
				if b.n.Down() && len(now) > 0 {
					t.Fatalf("it is down, and tells %v", now)
				}
				onDisk(t, b.d, now)
				all = append(all, now...)
			}
			onDisk(t, b.d, all)
			b.power(-1)
			if e := b.again(); e != api.OK {
				t.Fatal(e)
			}
			onDisk(t, b.d, all)
			if k == 69 && len(all) < 20 {
				t.Errorf("just %d items were told", len(all))
			}
		}
	}
}

// keepStep is a put, here or from elsewhere, or a copy.
func keepStep(b *bench, r *rand.Rand) []node.Send {
	value := bytes.Repeat([]byte{byte('a' + r.Intn(26))}, []int{0, 1, 9, 64}[r.Intn(4)])
	at := spot(byte(0x50 + r.Intn(3)))
	switch r.Intn(3) {
	case 0:
		_, sent, _ := b.ask(api.OpPut, at, value)
		return sent
	case 1:
		return b.hear(3, b.within(3, frame.Packet{Src: spot(0x70), Dst: at, Req: 1, Op: api.OpPut, TTL: 9, Item: api.Item{Value: value}}))
	}
	ver := api.Ver{N: int64(r.Intn(5)), Who: spot(byte(r.Intn(256)))}
	return b.hear(3, b.within(3, frame.Copy{P: key(7, 1), Item: api.Item{Key: at, Ver: ver, Value: value}}))
}
