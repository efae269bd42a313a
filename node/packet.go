package node

import (
	"annulet/api"
	"annulet/frame"
	"annulet/route"
)

// request lets a request's packet go on: its number.
func (n *Node) request(op int, dst api.ID, text []byte) int64 {
	n.requests++
	req := n.Inc()*perInc + n.requests
	n.open[req] = struct{}{}
	p := frame.Packet{Src: n.id, Dst: dst, Req: req, Op: op, TTL: api.MaxTTL}
	if op == api.OpPut {
		p.Item.Value = text
	} else {
		p.Text = text
	}
	n.goOn(p)
	return req
}

// goOn forwards a packet towards the nearest end that is known, or takes it, if that is the node itself.
func (n *Node) goOn(p frame.Packet) {
	c := route.Choose(p.Dst, n.id, n.nears(), n.table)
	if c.N == here {
		n.atEnd(p)
		return
	}
	e := eventOf(EvStep, p)
	e.TTL, e.Choice = p.TTL, c
	if p.TTL == 0 {
		e.Kind = EvLost
		n.note(e)
		return
	}
	n.note(e)
	p.TTL--
	n.send(c.N, frame.Plain(p))
}

// eventOf is an event that happened to a packet.
func eventOf(kind int, p frame.Packet) Event {
	return Event{Kind: kind, Src: p.Src, Dst: p.Dst, Req: p.Req, Op: p.Op}
}

// atEnd does what a packet is for.
func (n *Node) atEnd(p frame.Packet) {
	switch p.Op {
	case api.OpSend:
		n.handUp(p)
	case api.OpPut:
		n.put(p)
	case api.OpGet:
		n.get(p)
	case api.OpAnswer:
		n.answered(p)
	}
}

// handUp hands a text up, if it is for this node.
func (n *Node) handUp(p frame.Packet) {
	if p.Dst != n.id {
		n.answer(p, api.ErrNone, api.Item{})
		return
	}
	e := eventOf(EvUp, p)
	e.Text = p.Text
	n.note(e)
	n.answer(p, api.OK, api.Item{})
}

// put keeps a value.
func (n *Node) put(p frame.Packet) {
	x, err := n.vault.Put(p.Dst, p.Item.Value, n.id)
	if n.Down() {
		// Nobody is told, not even that it failed.
		return
	}
	if err == api.OK {
		e := eventOf(EvKept, p)
		e.Item = x
		n.note(e)
	}
	n.answer(p, err, x)
}

// get tells what is kept.
func (n *Node) get(p frame.Packet) {
	x, there := n.vault.Get(p.Dst)
	if !there {
		n.answer(p, api.ErrNone, api.Item{})
		return
	}
	n.answer(p, api.OK, x)
}

// answer lets the answer to a packet go on, from here.
func (n *Node) answer(p frame.Packet, e api.Errno, x api.Item) {
	n.goOn(frame.Packet{Src: n.id, Dst: p.Src, Req: p.Req, Op: api.OpAnswer, TTL: api.MaxTTL, Item: x, Text: []byte{byte(e)}})
}

// answered takes an answer, if the node waits for it: so no request is answered twice.
func (n *Node) answered(p frame.Packet) {
	_, open := n.open[p.Req]
	if p.Dst != n.id || !open || len(p.Text) != 1 {
		return
	}
	delete(n.open, p.Req)
	e := eventOf(EvAnswer, p)
	e.Code, e.Item = api.Errno(p.Text[0]), p.Item
	n.note(e)
}
