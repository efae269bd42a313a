package node

import (
	"annulet/api"
	"annulet/frame"
	"annulet/rep"
	"annulet/ring"
	"annulet/seek"
	"annulet/setup"
	"annulet/table"
	"annulet/tear"
	"annulet/trail"
)

// onward is the leg of an Ask on the second path: from the end that told of one to that one.
const onward = 2

// hear tells a frame to the end of the link that it came by.
func (n *Node) hear(from int, f api.Frame) {
	end := n.ends[from]
	was, _ := end.Pair()
	told := end.Hear(f, n.nextSession())
	if is, _ := end.Pair(); is != was {
		n.sessions++
	}
	if told.Died {
		n.died(from)
	}
	n.raw(from, told.Out...)
	if !told.Came {
		return
	}
	if f, e := frame.Decode(told.Text); e == api.OK {
		n.take(from, f)
	}
}

// take takes a frame that came within a session.
func (n *Node) take(from int, f api.Frame) {
	said, _ := frame.Of(f)
	switch b := said.(type) {
	case frame.Setup:
		n.laid(setup.Take(n.table, n.self(), from, f, n.sessionsOpen()))
	case frame.Drop:
		n.sendAll(tear.Drop(n.table, from, b.P).Out)
	case frame.Advert:
		n.heard = rep.Put(n.heard, rep.Heard{N: from, ID: b.ID, Far: b.Far})
	case frame.Part, frame.Peers, frame.Copy, frame.Got:
		if x, arrived := n.pass(from, f); arrived {
			n.arrive(x, said)
		}
	case frame.Ask:
		n.asked(from, b)
	case frame.Packet:
		n.goOn(b)
	}
}

// pass lets a frame go on along its path: has it arrived, and on which?
func (n *Node) pass(from int, f api.Frame) (api.Entry, bool) {
	x, there := n.table.Get(f.P)
	back, on := x.Na, x.Nb
	if f.ToA {
		back, on = on, back
	}
	switch {
	case !there || from != back:
		return api.Entry{}, false
	case on == here:
		return x, true
	}
	n.send(on, f)
	return api.Entry{}, false
}

// arrive takes what has come along a path to its end.
func (n *Node) arrive(x api.Entry, said frame.Body) {
	other, _, _ := table.Other(x)
	switch b := said.(type) {
	case frame.Part:
		if !ring.Has(ring.Want(n.id, n.friends(), n.half), other) {
			n.sendAll(tear.End(n.table, x.P).Out)
		}
	case frame.Peers:
		n.toldOf(x.P, b.IDs)
	case frame.Copy:
		if _, e := n.vault.Merge(b.Item); e == api.OK {
			n.along(x, frame.Plain(frame.Got{Key: b.Item.Key, Ver: b.Item.Ver}))
		}
	case frame.Got:
		n.book.Mark(other, b.Key, b.Ver)
	}
}

// toldOf notes those of whom the other end of a path told.
func (n *Node) toldOf(p api.Path, ids []api.ID) {
	for _, id := range ids {
		if id != n.id {
			n.told = append(n.told, seek.Cand{ID: id, Leg: seek.Told, P: p})
		}
	}
}

// asked takes an Ask: it goes on towards the one that is wanted, or that is the node itself.
func (n *Node) asked(from int, a frame.Ask) {
	if len(a.Trail) >= api.MaxTTL {
		return
	}
	a.Trail = append(a.Trail, n.place)
	if a.Leg == seek.Told || a.Leg == onward {
		if _, arrived := n.pass(from, frame.Plain(a)); !arrived {
			return
		}
	}
	switch {
	case a.Want == n.id:
		n.accept(a)
	case a.Leg == seek.Told:
		n.askOnward(a)
	case a.Leg == seek.Least:
		if best := rep.Best(n.id, n.heard); best.ID == a.Want {
			n.send(best.N, frame.Plain(a))
		}
	}
}

// askOnward lets an Ask go on along the path to the one that is wanted, of whom this node had told.
func (n *Node) askOnward(a frame.Ask) {
	if x, there := tear.First(n.table, a.Want); there {
		a.Leg = onward
		n.along(x, frame.Plain(a))
	}
}

// accept lays a path to the one that asked, along the way that the Ask came.
func (n *Node) accept(a frame.Ask) {
	if _, there := tear.First(n.table, a.Who); there || a.Who == n.id {
		return
	}
	p := api.Path{Who: n.id, N: n.Inc()*perInc + n.paths + 1}
	way := trail.Back(trail.Erase(a.Trail))
	begun, e := setup.Start(n.table, n.self(), p, a.Who, way, n.sessionsOpen())
	if e == api.OK {
		n.paths++
		n.note(Event{Kind: EvMade, P: p, Dst: a.Who})
	}
	n.laid(begun)
}
