package node_test

import (
	"bytes"
	"math"
	"slices"

	"annulet/api"
	"annulet/copies"
	"annulet/disk"
	"annulet/frame"
	"annulet/hello"
	"annulet/node"
	"annulet/rep"
	"annulet/ring"
	"annulet/route"
	"annulet/seek"
	"annulet/setup"
	"annulet/table"
	"annulet/tear"
	"annulet/trail"
	"annulet/vault"
)

// teller is a node told a second time, sentence by sentence, by the layers below it; it tells plain frames apart by their kinds, and is thrown out of a call by the first write that fails.
type teller struct {
	c     node.Config
	v     *vault.Vault
	t     *table.Table
	ends  []*hello.End
	heard map[int]rep.Heard
	told  []seek.Cand
	book  *copies.Book
	sess  int64
	paths int64
	reqs  int64
	open  []int64
	out   []node.Send
	ev    []node.Event
}

// powerFailed is thrown where a write fails.
type powerFailed struct{}

func newTeller(c node.Config, d *disk.Disk) (*teller, api.Errno) {
	if c.N < 0 || c.N > 5 || c.Half < 1 || c.Half > 3 || c.Paths < 1 || c.Paths > 128 {
		return nil, api.ErrArg
	}
	v, e := vault.Open(d)
	if e != api.OK {
		return nil, e
	}
	m := &teller{c: c, v: v, t: table.New(c.Paths), heard: map[int]rep.Heard{}, book: copies.New()}
	for range 6 {
		m.ends = append(m.ends, hello.New(c.ID))
	}
	return m, api.OK
}

// call does what is asked, and tells what was sent, if power lasted.
func (m *teller) call(do func()) (sent []node.Send) {
	if m.v.Down() {
		return nil
	}
	defer func() {
		if thrown := recover(); thrown != nil {
			if _, ok := thrown.(powerFailed); !ok {
				panic(thrown)
			}
			m.ev, sent = nil, nil
		}
	}()
	m.out = nil
	do()
	return m.out
}

func (m *teller) events() []node.Event {
	l := m.ev
	m.ev = nil
	return l
}

func (m *teller) happened(e node.Event) {
	e.Text, e.Item.Value = bytes.Clone(e.Text), bytes.Clone(e.Item.Value)
	m.ev = append(m.ev, e)
}

func encoded(f api.Frame) []byte {
	b, e := frame.Encode(f)
	if e != api.OK {
		panic("a frame that has no bytes")
	}
	return b
}

func (m *teller) raw(to int, l []api.Frame) {
	for _, f := range l {
		m.out = append(m.out, node.Send{N: to, B: encoded(f)})
	}
}

func (m *teller) say(to int, f api.Frame) {
	most := map[int]int{api.Setup: math.MaxInt, api.Drop: math.MaxInt, api.Copy: 16, api.Got: 16}[f.Kind]
	if most == 0 {
		most = 128
	}
	_, waits, _ := m.ends[to].Window()
	if len(waits) >= most {
		return
	}
	if d, e := m.ends[to].Send(encoded(f)); e == api.OK {
		m.raw(to, []api.Frame{d})
	}
}

func (m *teller) sayAll(l []api.Hop) {
	for _, h := range l {
		m.say(h.N, h.F)
	}
}

// alongOwn says a frame along an own path: away from where the node itself is the end.
func (m *teller) alongOwn(p api.Path, f api.Frame) {
	x, there := m.t.Get(p)
	f.P = p
	switch {
	case !there:
	case x.Na == -1:
		m.say(x.Nb, f)
	case x.Nb == -1:
		f.ToA = true
		m.say(x.Na, f)
	}
}

func (m *teller) nears() []api.Near {
	var l []api.Near
	for i := range 6 {
		if id, open := m.ends[i].Open(); open {
			l = append(l, api.Near{N: i, ID: id})
		}
	}
	return l
}

func (m *teller) opens() []bool {
	l := make([]bool, 6)
	for i := range 6 {
		_, l[i] = m.ends[i].Open()
	}
	return l
}

func (m *teller) best() rep.Heard {
	var l []rep.Heard
	for i := range 6 {
		if x, there := m.heard[i]; there {
			l = append(l, x)
		}
	}
	return rep.Best(m.c.ID, l)
}

func (m *teller) sessionDied(i int) {
	delete(m.heard, i)
	m.sayAll(tear.Dead(m.t, i).Out)
}

func (m *teller) tick(up []bool) []node.Send {
	return m.call(func() {
		for i := range 6 {
			m.tickEnd(i, i < len(up) && up[i] && i != m.c.N)
		}
		best := m.best()
		m.ask(best)
		for _, p := range tear.Twins(m.t) {
			m.sayAll(tear.End(m.t, p).Out)
		}
		for _, p := range tear.Spare(m.t, m.c.ID, m.c.Half) {
			m.alongOwn(p, api.Frame{Kind: api.Part})
		}
		friends := tear.Friends(m.t, m.c.ID)
		wanted := ring.Want(m.c.ID, friends, m.c.Half)
		for _, x := range m.t.Own() {
			m.alongOwn(x.P, api.Frame{Kind: api.Peers, IDs: wanted})
		}
		for i, open := range m.opens() {
			if open {
				m.say(i, api.Frame{Kind: api.Advert, A: best.ID, N: best.Far})
			}
		}
		m.book.Retain(friends)
		for _, due := range m.book.Due(m.c.ID, friends, m.v.All()) {
			x, _ := tear.First(m.t, due.To)
			m.alongOwn(x.P, api.Frame{Kind: api.Copy, Item: due.Item})
		}
	})
}

func (m *teller) tickEnd(i int, up bool) {
	if !up {
		if m.ends[i].Fall() {
			m.sessionDied(i)
		}
		return
	}
	if m.ends[i].Up() {
		m.raw(i, m.ends[i].Tick())
		return
	}
	m.sess++
	m.raw(i, m.ends[i].Rise(api.Num{Inc: m.v.Inc(), N: m.sess}))
}

func (m *teller) ask(best rep.Heard) {
	var cands []seek.Cand
	for _, x := range m.nears() {
		cands = append(cands, seek.Cand{ID: x.ID, Leg: 0, N: x.N})
	}
	for _, x := range m.told {
		if y, there := m.t.Get(x.P); there && min(y.Na, y.Nb) == -1 {
			cands = append(cands, x)
		}
	}
	if best.N != -1 {
		cands = append(cands, seek.Cand{ID: best.ID, Leg: 3, N: best.N})
	}
	m.told = nil
	for _, x := range seek.Asks(m.c.ID, tear.Friends(m.t, m.c.ID), cands, m.c.Half) {
		f := api.Frame{Kind: api.Ask, A: m.c.ID, B: x.ID, Op: x.Leg, Trail: []int{m.c.N}}
		if x.Leg == 1 {
			m.alongOwn(x.P, f)
		} else {
			m.say(x.N, f)
		}
	}
}

func (m *teller) hear(from int, b []byte) []node.Send {
	if from < 0 || from > 5 {
		return nil
	}
	return m.call(func() {
		f, e := frame.Decode(b)
		if e != api.OK {
			return
		}
		next := api.Num{Inc: m.v.Inc(), N: m.sess + 1}
		told := m.ends[from].Hear(f, next)
		if mine, _ := m.ends[from].Pair(); mine == next {
			m.sess++
		}
		if told.Died {
			m.sessionDied(from)
		}
		m.raw(from, told.Out)
		if f, e := frame.Decode(told.Text); told.Came && e == api.OK {
			m.take(from, f)
		}
	})
}

func (m *teller) take(from int, f api.Frame) {
	switch f.Kind {
	case api.Setup:
		m.began(setup.Take(m.t, setup.Self{N: m.c.N, ID: m.c.ID}, from, f, m.opens()))
	case api.Drop:
		m.sayAll(tear.Drop(m.t, from, f.P).Out)
	case api.Advert:
		m.heard[from] = rep.Heard{N: from, ID: f.A, Far: f.N}
	case api.Part, api.Peers, api.Copy, api.Got:
		if other, arrived := m.onPath(from, f); arrived {
			m.arrived(other, f)
		}
	case api.Ask:
		m.asked(from, f)
	case api.Packet:
		m.packet(f)
	}
}

func (m *teller) began(l setup.Ended) {
	if l.Full {
		m.happened(node.Event{Kind: node.EvFull})
	}
	m.sayAll(l.Out)
}

// onPath lets a frame go along its path; if it has arrived: from whom.
func (m *teller) onPath(from int, f api.Frame) (api.ID, bool) {
	x, there := m.t.Get(f.P)
	if !there {
		return api.ID{}, false
	}
	if f.ToA {
		switch {
		case x.Nb == from && x.Na == -1:
			return x.B, true
		case x.Nb == from:
			m.say(x.Na, f)
		}
		return api.ID{}, false
	}
	switch {
	case x.Na == from && x.Nb == -1:
		return x.A, true
	case x.Na == from:
		m.say(x.Nb, f)
	}
	return api.ID{}, false
}

func (m *teller) arrived(other api.ID, f api.Frame) {
	switch f.Kind {
	case api.Part:
		if !slices.Contains(ring.Want(m.c.ID, tear.Friends(m.t, m.c.ID), m.c.Half), other) {
			m.sayAll(tear.End(m.t, f.P).Out)
		}
	case api.Peers:
		for _, id := range f.IDs {
			if id != m.c.ID {
				m.told = append(m.told, seek.Cand{ID: id, Leg: 1, P: f.P})
			}
		}
	case api.Copy:
		_, e := m.v.Merge(f.Item)
		m.powered()
		if e == api.OK {
			m.alongOwn(f.P, api.Frame{Kind: api.Got, Item: api.Item{Key: f.Item.Key, Ver: f.Item.Ver}})
		}
	case api.Got:
		m.book.Mark(other, f.Item.Key, f.Item.Ver)
	}
}

// powered ends the call, if a write failed.
func (m *teller) powered() {
	if m.v.Down() {
		panic(powerFailed{})
	}
}

func (m *teller) asked(from int, f api.Frame) {
	if len(f.Trail) == 64 {
		return
	}
	f.Trail = append(f.Trail, m.c.N)
	if f.Op == 1 || f.Op == 2 {
		if _, arrived := m.onPath(from, f); !arrived {
			return
		}
	}
	if f.B == m.c.ID {
		m.accept(f)
		return
	}
	if x, there := tear.First(m.t, f.B); there && f.Op == 1 {
		f.Op, f.ToA = 2, false
		m.alongOwn(x.P, f)
	}
	if best := m.best(); f.Op == 3 && best.ID == f.B {
		m.say(best.N, f)
	}
}

func (m *teller) accept(f api.Frame) {
	if _, there := tear.First(m.t, f.A); there || f.A == m.c.ID {
		return
	}
	p := api.Path{Who: m.c.ID, N: m.v.Inc()<<32 + m.paths + 1}
	l, e := setup.Start(m.t, setup.Self{N: m.c.N, ID: m.c.ID}, p, f.A, trail.Back(trail.Erase(f.Trail)), m.opens())
	if e == api.OK {
		m.paths++
		m.happened(node.Event{Kind: node.EvMade, P: p, Dst: f.A})
	}
	m.began(l)
}

// packet lets a packet go on from here, answers and all.
func (m *teller) packet(f api.Frame) {
	c := route.Choose(f.B, m.c.ID, m.nears(), m.t)
	if c.N == -1 {
		m.atEnd(f)
		return
	}
	e := node.Event{Kind: node.EvStep, Src: f.A, Dst: f.B, Req: f.N, Op: f.Op, TTL: f.TTL, Choice: c}
	if f.TTL == 0 {
		e.Kind = node.EvLost
	}
	m.happened(e)
	if f.TTL > 0 {
		f.TTL--
		m.say(c.N, f)
	}
}

func (m *teller) atEnd(f api.Frame) {
	e := node.Event{Src: f.A, Dst: f.B, Req: f.N, Op: f.Op}
	answer := api.Frame{Kind: api.Packet, A: m.c.ID, B: f.A, N: f.N, Op: 4, TTL: 64, Text: []byte{0}}
	switch {
	case f.Op == 1 && f.B != m.c.ID:
		answer.Text[0] = byte(api.ErrNone)
	case f.Op == 1:
		e.Kind, e.Text = node.EvUp, f.Text
		m.happened(e)
	case f.Op == 2:
		x, err := m.v.Put(f.B, f.Item.Value, m.c.ID)
		m.powered()
		if err == api.OK {
			e.Kind, e.Item = node.EvKept, x
			m.happened(e)
		}
		answer.Item, answer.Text[0] = x, byte(err)
	case f.Op == 3:
		x, there := m.v.Get(f.B)
		if answer.Item = x; !there {
			answer.Text[0] = byte(api.ErrNone)
		}
	case f.Op == 4:
		at := slices.Index(m.open, f.N)
		if f.B == m.c.ID && at >= 0 && len(f.Text) == 1 {
			m.open = slices.Delete(m.open, at, at+1)
			e.Kind, e.Code, e.Item = node.EvAnswer, api.Errno(f.Text[0]), f.Item
			m.happened(e)
		}
		return
	}
	m.packet(answer)
}

func (m *teller) request(op int, dst api.ID, text []byte) (int64, []node.Send, api.Errno) {
	if op < 1 || op > 3 || op == 3 && len(text) > 0 {
		return 0, nil, api.ErrArg
	}
	if m.v.Down() {
		return 0, nil, api.ErrDown
	}
	if len(text) > 64 {
		return 0, nil, api.ErrLong
	}
	m.reqs++
	req := m.v.Inc()<<32 + m.reqs
	m.open = append(m.open, req)
	f := api.Frame{Kind: api.Packet, A: m.c.ID, B: dst, N: req, Op: op, TTL: 64}
	if op == 2 {
		f.Item.Value = text
	} else {
		f.Text = text
	}
	sent := m.call(func() { m.packet(f) })
	if m.v.Down() {
		return 0, nil, api.ErrDown
	}
	return req, sent, api.OK
}

func (m *teller) end(i int) node.End {
	if i < 0 || i > 5 {
		return node.End{}
	}
	id, open := m.ends[i].Open()
	mine, peer := m.ends[i].Pair()
	base, out, got := m.ends[i].Window()
	return node.End{Up: m.ends[i].Up(), Open: open, Mine: mine, Peer: peer, ID: id, Base: base, Out: out, Got: got}
}
