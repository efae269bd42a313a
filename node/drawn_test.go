package node_test

import (
	"bytes"
	"math/rand"
	"testing"

	"annulet/api"
	"annulet/frame"
	"annulet/hello"
	"annulet/node"
)

// moves are calls of a node between 1 and 3, each with what comes of it; where a side has no session it says nothing.
func moves() []func(b *bench) {
	says := func(i int, said frame.Body) func(b *bench) {
		return func(b *bench) {
			if b.canSay(i) {
				b.say(i, said)
			}
		}
	}
	x := api.Item{Key: spot(0x50), Ver: api.Ver{N: 2, Who: spot(0x60)}, Value: []byte("x")}
	return []func(b *bench){
		func(b *bench) { b.round() },
		func(b *bench) { b.tick([]bool{false, true}) },
		func(b *bench) { b.anew(3) },
		func(b *bench) { b.request(api.OpPut, spot(0x52), []byte("y")) },
		func(b *bench) { b.request(api.OpGet, spot(0x50), nil) },
		says(1, frame.Ask{Who: spot(0x30), Want: spot(0x50), Trail: []int{1}}),
		says(3, frame.Setup{P: key(7, 1), A: spot(0x70), B: spot(0x50), Trail: []int{3, 2}}),
		says(3, frame.Setup{P: key(7, 2), A: spot(0x70), B: spot(0x30), Trail: []int{3, 2, 1}}),
		says(1, frame.Drop{P: key(7, 2)}),
		says(3, frame.Copy{P: key(7, 1), Item: x}),
		says(3, frame.Peers{P: key(7, 1), IDs: []api.ID{spot(0x58)}}),
		says(1, frame.Peers{P: key(0x50, 1<<32+1), ToA: true, IDs: []api.ID{spot(0x48), spot(0x70)}}),
		says(3, frame.Ask{Who: spot(0x58), Want: spot(0x30), Leg: 1, P: key(7, 1), Trail: []int{3}}),
		says(1, frame.Advert{ID: spot(1), Far: 1}),
		says(3, frame.Got{P: key(7, 1), Key: x.Key, Ver: x.Ver}),
		says(1, frame.Packet{Src: spot(0x30), Dst: spot(0x68), Req: 1, Op: api.OpSend, TTL: 2}),
	}
}

// canSay tells whether a side may say something within its session.
func (b *bench) canSay(i int) bool {
	if b.sides[i] == nil {
		return false
	}
	_, open := b.sides[i].end.Open()
	return open
}

// anew lets a side begin anew, as if it had crashed: it greets by a number of its own.
func (b *bench) anew(i int) {
	b.t.Helper()
	s := b.sides[i]
	if s == nil {
		return
	}
	b.begun++
	s.end = hello.New(s.id)
	b.reach(b.hearAll(i, s.end.Rise(api.Num{Inc: 1, N: b.begun})))
}

// P20.1: all rows of three moves, and a round behind them.
func TestRowsOfMoves(t *testing.T) {
	all := moves()
	for i := range all {
		for j := range all {
			for k := range all {
				b := between(t)
				for _, at := range []int{i, j, k} {
					all[at](b)
				}
				b.round()
				if t.Failed() {
					t.Fatalf("the moves %d, %d, %d", i, j, k)
				}
			}
		}
	}
}

// drawn is a bench whose calls are drawn.
type drawn struct {
	*bench
	r    *rand.Rand
	reqs []int64
	old  map[int][][]byte // what sides said, by their places
}

func pick[T any](r *rand.Rand, l []T) T { return l[r.Intn(len(l))] }

func (d *drawn) id() api.ID {
	return spot(pick(d.r, []byte{0x05, 0x10, 0x30, 0x48, 0x50, 0x50, 0x51, 0x60, 0x70, 0x90, 0xf0}))
}

// path is a key, mostly of an entry that there is, and a direction.
func (d *drawn) path(from int) (api.Path, bool) {
	if l := d.n.Entries(); len(l) > 0 && d.r.Intn(8) > 0 {
		x := pick(d.r, l)
		for range 4 {
			if x.Na == from || x.Nb == from {
				break
			}
			x = pick(d.r, l)
		}
		return x.P, (x.Nb == from) != (d.r.Intn(8) == 0)
	}
	return d.key(), d.r.Intn(2) == 0
}

func (d *drawn) key() api.Path {
	who, n := pick(d.r, []byte{0x30, 0x50, 0x70}), int64(d.r.Intn(4))
	if who == 0x50 {
		n += d.n.Inc() << 32
	}
	return key(who, n)
}

// trail is places that an Ask or a Setup may have come through.
func (d *drawn) trail(from int) []int {
	var l []int
	for range d.r.Intn(3) {
		l = append(l, d.r.Intn(6))
	}
	if d.r.Intn(8) > 0 {
		l = append(l, from)
	}
	if d.r.Intn(40) == 0 {
		for len(l) < 63+d.r.Intn(2) {
			l = append(l, d.r.Intn(6))
		}
	}
	return l
}

func (d *drawn) text() []byte {
	return bytes.Repeat([]byte{byte(d.r.Intn(9))}, pick(d.r, []int{0, 1, 1, 1, 2, 7, 64}))
}

func (d *drawn) item() api.Item {
	return api.Item{Key: d.id(), Ver: api.Ver{N: pick(d.r, []int64{0, 1, 1, 2, 2, 3, 4, 1<<62 - 1, 1 << 62}), Who: d.id()}, Value: d.text()}
}

// said is anything that a side may say.
func (d *drawn) said(from int) frame.Body {
	p, toA := d.path(from)
	switch d.r.Intn(16) {
	case 0, 1:
		way := append(d.trail(from), d.c.N)
		if d.r.Intn(2) == 0 {
			way = append(way, d.r.Intn(6))
		}
		to := d.id()
		if d.r.Intn(2) == 0 {
			to = d.c.ID
		}
		return frame.Setup{P: d.key(), A: d.id(), B: to, Trail: way[:min(len(way), 64)]}
	case 2:
		return frame.Drop{P: p}
	case 3:
		return frame.Part{P: p, ToA: toA}
	case 4, 5:
		return frame.Peers{P: p, ToA: toA, IDs: []api.ID{d.id(), d.id()}[:d.r.Intn(3)]}
	case 6, 7:
		return frame.Copy{P: p, ToA: toA, Item: d.item()}
	case 8:
		x := d.item()
		if l := d.n.Items(); len(l) > 0 && d.r.Intn(4) > 0 {
			x = pick(d.r, l)
		}
		return frame.Got{P: p, ToA: toA, Key: x.Key, Ver: x.Ver}
	case 9, 10, 11:
		return frame.Ask{Who: d.id(), Want: d.id(), Leg: d.r.Intn(4), P: p, ToA: toA, Trail: d.trail(from)}
	case 12:
		return frame.Advert{ID: d.id(), Far: pick(d.r, []int64{0, 1, 5, 6, 1<<63 - 1})}
	}
	req := int64(d.r.Intn(3))
	if len(d.reqs) > 0 && d.r.Intn(4) > 0 {
		req = pick(d.r, d.reqs)
	}
	return frame.Packet{Src: d.id(), Dst: d.id(), Req: req, Op: 1 + d.r.Intn(4), TTL: pick(d.r, []int{0, 1, 2, 64}), Item: d.item(), Text: d.text()}
}

// links draws which links are said to be up: mostly those that are.
func (d *drawn) links() []bool {
	switch d.r.Intn(6) {
	case 0:
		return d.up[:d.r.Intn(7)]
	case 1:
		return append(d.up[:6:6], true, false, true)
	}
	return d.up
}

// takes lets what was sent come, or be lost.
func (d *drawn) takes(sent []node.Send) {
	if d.r.Intn(10) > 0 {
		d.reach(sent)
	}
}

// sayOne lets a side say something; what it said may come again later.
func (d *drawn) sayOne() {
	i := d.r.Intn(6)
	if !d.canSay(i) {
		return
	}
	x := d.within(i, d.said(i))
	d.old[i] = append(d.old[i], x)
	if d.r.Intn(20) > 0 {
		d.takes(d.hear(i, x))
	}
}

// mangled is bytes that were said, with one of them changed, some cut off, or some laid behind.
func (d *drawn) mangled(x []byte) []byte {
	x = bytes.Clone(x)
	switch d.r.Intn(4) {
	case 0:
		return x[:d.r.Intn(len(x)+1)]
	case 1:
		return append(x, byte(d.r.Intn(256)))
	case 2:
		x[d.r.Intn(len(x))] = byte(d.r.Intn(256))
	}
	return x
}

// hearsOld lets something come that was said ahead, whole or not, from where it was said or from elsewhere.
func (d *drawn) hearsOld() {
	i := d.r.Intn(6)
	if l := d.old[i]; len(l) > 0 {
		from := i
		if d.r.Intn(5) == 0 {
			from = d.r.Intn(9) - 1
		}
		sent := d.hear(from, d.mangled(pick(d.r, l)))
		if d.sides[i] != nil {
			d.takes(sent)
		}
	}
}

// step is one drawn thing.
func (d *drawn) step() {
	d.forget()
	switch i := d.r.Intn(6); d.r.Intn(32) {
	default:
		d.sayOne()
	case 0, 1, 2, 3, 4:
		d.takes(d.tick(d.links()))
	case 5, 6, 7:
		text := d.text()
		if req, sent, e := d.ask(d.r.Intn(6)-1, d.id(), append(text, text...)); e == api.OK {
			d.reqs = append(d.reqs, req)
			d.takes(sent)
		}
	case 8, 9:
		if d.sides[i] == nil && i != d.c.N {
			d.sides[i] = &side{end: hello.New(spot(byte(0x10 + 0x20*i))), id: spot(byte(0x10 + 0x20*i))}
			d.up[i] = true
			d.begun++
			d.takes(d.hearAll(i, d.sides[i].end.Rise(api.Num{Inc: 1, N: d.begun})))
		}
	case 10:
		if d.r.Intn(4) == 0 {
			d.leave(i)
		}
	case 11:
		if d.r.Intn(3) == 0 {
			d.anew(i)
		}
	case 12, 13:
		d.hearsOld()
	case 14:
		if d.sides[i] != nil {
			d.sides[i].mute = !d.sides[i].mute
		}
	case 15:
		d.held = !d.held
		if !d.held {
			spoil(d.t, d.happened())
		}
	}
}

// P20.1: long drawn rows of calls, at nodes of all kinds, with power that fails, and beginnings anew.
func TestDrawnRows(t *testing.T) {
	rows := 150
	if testing.Short() {
		rows = 20
	}
	for seed := range int64(rows) {
		r := rand.New(rand.NewSource(seed))
		c := node.Config{N: r.Intn(6), ID: spot(0x50), Half: 1 + r.Intn(3), Paths: pick(r, []int{1, 2, 5, 128})}
		d := &drawn{bench: begin(t, c, pick(r, []int{5, 60, 300})), r: r, old: map[int][][]byte{}}
		for step := range 250 {
			if r.Intn(120) == 0 {
				d.power(r.Intn(9))
			}
			if d.n.Down() && r.Intn(5) == 0 || r.Intn(400) == 0 {
				d.power(-1)
				d.held = false
				if d.again() != api.OK {
					break
				}
			}
			d.step()
			if t.Failed() {
				t.Fatalf("the row %d, at the step %d", seed, step)
			}
		}
	}
}
