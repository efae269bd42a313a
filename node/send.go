package node

import (
	"slices"

	"annulet/api"
	"annulet/frame"
	"annulet/setup"
	"annulet/table"
	"annulet/tear"
)

// here stands where a neighbour would, if it is the node itself.
const here = -1

// nears are the neighbours: the places with which there are sessions.
func (n *Node) nears() []api.Near {
	var l []api.Near
	for i, end := range n.ends {
		if id, open := end.Open(); open {
			l = append(l, api.Near{N: i, ID: id})
		}
	}
	return l
}

// sessionsOpen tells of each place whether there is a session with it.
func (n *Node) sessionsOpen() []bool {
	l := make([]bool, api.MaxNodes)
	for _, x := range n.nears() {
		l[x.N] = true
	}
	return l
}

// friends are the other ends of its own paths.
func (n *Node) friends() []api.ID { return tear.Friends(n.table, n.id) }

// raw lets frames go out to a neighbour.
func (n *Node) raw(to int, frames ...api.Frame) {
	for _, f := range frames {
		if b, e := frame.Encode(f); e == api.OK {
			n.sends = append(n.sends, Send{N: to, B: b})
		}
	}
}

// send sends a frame within the session with a neighbour, if there is one.
func (n *Node) send(to int, f api.Frame) {
	end := n.ends[to]
	if heldBack(f.Kind, end.Waiting()) {
		return
	}
	b, e := frame.Encode(f)
	if e != api.OK {
		return
	}
	if f, e := end.Send(b); e == api.OK {
		n.raw(to, f)
	}
}

// heldBack tells whether a frame isn't sent, as so many texts wait ahead of it. Only paths are laid and taken away whatever waits, as nobody says that again.
func heldBack(kind, waiting int) bool {
	switch kind {
	case api.Setup, api.Drop:
		return false
	case api.Copy, api.Got:
		return waiting >= api.MaxCopies
	}
	return waiting >= api.MaxWait
}

// sendAll sends frames, each to its neighbour.
func (n *Node) sendAll(l []api.Hop) {
	for _, h := range l {
		n.send(h.N, h.F)
	}
}

// along sends a frame along an own path, towards the other end.
func (n *Node) along(x api.Entry, f api.Frame) {
	_, to, toA := table.Other(x)
	f.P, f.ToA = x.P, toA
	n.send(to, f)
}

// laid is told what came of a path that is laid.
func (n *Node) laid(l setup.Ended) {
	if l.Full {
		n.note(Event{Kind: EvFull})
	}
	n.sendAll(l.Out)
}

// note notes what happened, in memory of its own.
func (n *Node) note(e Event) {
	e.Text = slices.Clone(e.Text)
	e.Item.Value = slices.Clone(e.Item.Value)
	n.events = append(n.events, e)
}
