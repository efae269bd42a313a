package node

import (
	"annulet/api"
	"annulet/frame"
	"annulet/rep"
	"annulet/ring"
	"annulet/seek"
	"annulet/tear"
)

// tick does what is done each time.
func (n *Node) tick(up []bool) {
	for i := range n.ends {
		n.link(i, i != n.place && i < len(up) && up[i])
	}
	best := rep.Best(n.id, n.heard)
	n.seek(best)
	n.tidy()
	friends := n.friends()
	n.tell(friends, best)
	n.handOn(friends)
}

// link is told whether the link to a place is up.
func (n *Node) link(i int, up bool) {
	end := n.ends[i]
	switch {
	case !up:
		if end.Fall() {
			n.died(i)
		}
	case end.Up():
		n.raw(i, end.Tick()...)
	default:
		mine := n.nextSession()
		n.sessions++
		n.raw(i, end.Rise(mine)...)
	}
}

// nextSession is the number that the next session gets.
func (n *Node) nextSession() api.Num {
	return api.Num{Inc: n.Inc(), N: n.sessions + 1}
}

// died forgets what hung on the session with a neighbour.
func (n *Node) died(i int) {
	n.heard = rep.Forget(n.heard, i)
	n.sendAll(tear.Dead(n.table, i).Out)
}

// seek asks for those that are wanted, and to whom there is no path.
func (n *Node) seek(best rep.Heard) {
	cands := n.candidates(best)
	n.told = nil
	for _, c := range seek.Asks(n.id, n.friends(), cands, n.half) {
		n.askFor(c)
	}
}

// candidates are those that are known now.
func (n *Node) candidates(best rep.Heard) []seek.Cand {
	var l []seek.Cand
	for _, x := range n.nears() {
		l = append(l, seek.Cand{ID: x.ID, Leg: seek.Direct, N: x.N})
	}
	for _, c := range n.told {
		if _, own := n.own(c.P); own {
			l = append(l, c)
		}
	}
	if best.N != here {
		l = append(l, seek.Cand{ID: best.ID, Leg: seek.Least, N: best.N})
	}
	return l
}

// own is the own path of a key, if there is one.
func (n *Node) own(p api.Path) (api.Entry, bool) {
	x, there := n.table.Get(p)
	if !there || x.Na != here && x.Nb != here {
		return api.Entry{}, false
	}
	return x, true
}

// askFor asks for one, by the way in which it is known.
func (n *Node) askFor(c seek.Cand) {
	f := frame.Plain(frame.Ask{Who: n.id, Want: c.ID, Leg: c.Leg, Trail: []int{n.place}})
	if c.Leg != seek.Told {
		n.send(c.N, f)
		return
	}
	if x, own := n.own(c.P); own {
		n.along(x, f)
	}
}

// tidy takes away whatever stands twice, and asks whether what isn't wanted here is wanted there.
func (n *Node) tidy() {
	for _, p := range tear.Twins(n.table) {
		n.sendAll(tear.End(n.table, p).Out)
	}
	for _, p := range tear.Spare(n.table, n.id, n.half) {
		if x, own := n.own(p); own {
			n.along(x, frame.Plain(frame.Part{}))
		}
	}
}

// tell tells friends of those that are wanted, and neighbours of the least identity.
func (n *Node) tell(friends []api.ID, best rep.Heard) {
	wanted := ring.Want(n.id, friends, n.half)
	for _, x := range n.table.Own() {
		n.along(x, frame.Plain(frame.Peers{IDs: wanted}))
	}
	for _, x := range n.nears() {
		n.send(x.N, frame.Plain(frame.Advert{ID: best.ID, Far: best.Far}))
	}
}

// handOn hands on the items that are due.
func (n *Node) handOn(friends []api.ID) {
	n.book.Retain(friends)
	for _, due := range n.book.Due(n.id, friends, n.vault.All()) {
		if x, there := tear.First(n.table, due.To); there {
			n.along(x, frame.Plain(frame.Copy{Item: due.Item}))
		}
	}
}
