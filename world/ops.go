package world

import (
	"annulet/api"
	"annulet/node"
)

// mostRounds is how many rounds one op may be.
const mostRounds = 64

// Do does an op: did it happen?
func (w *World) Do(o Op) bool {
	if w == nil {
		return false
	}
	w.steps++
	switch o.Kind {
	case Boot:
		return w.boot(o.A)
	case Crash:
		return w.crash(o.A)
	case Link:
		return w.link(o.A, o.B, true)
	case Cut:
		return w.link(o.A, o.B, false)
	case Tick:
		return w.tick(o.A)
	case Take:
		return w.take(o.A, o.B, o.I)
	case Lose:
		_, lost := w.pipe(o.A, o.B).Take(o.I)
		return lost
	case Twice:
		return w.pipe(o.A, o.B).Twice(o.I)
	case Ask:
		return w.ask(o.A, o.I, o.ID, o.Text)
	case Power:
		return w.power(o.A, o.I)
	case Calm:
		return w.calm(o.I)
	}
	return false
}

// runs tells whether there is such a node, and it runs.
func (w *World) runs(a int) bool { return w.has(a) && w.places[a].node != nil }

// boot begins a node on its disk.
func (w *World) boot(a int) bool {
	if !w.has(a) || w.runs(a) {
		return false
	}
	p := &w.places[a]
	n, e := node.New(node.Config{N: a, ID: p.id, Half: w.half, Paths: w.paths}, p.disk)
	if e != api.OK {
		return false
	}
	p.node = n
	return true
}

// crash lets a node run no more.
func (w *World) crash(a int) bool {
	if !w.runs(a) {
		return false
	}
	w.places[a].node = nil
	return true
}

// link lets a link rise or fall.
func (w *World) link(a, b int, up bool) bool {
	if !w.has(a) || !w.has(b) || a == b || w.links[a][b] == up {
		return false
	}
	w.links[a][b], w.links[b][a] = up, up
	w.pipe(a, b).Fall()
	w.pipe(b, a).Fall()
	return true
}

// tick lets time pass at a node.
func (w *World) tick(a int) bool {
	if !w.runs(a) {
		return false
	}
	up := make([]bool, len(w.places))
	for i := range up {
		up[i] = w.Linked(a, i) && w.runs(i)
	}
	w.called(a, w.places[a].node.Tick(up))
	return true
}

// take lets a frame arrive; where no node runs it is lost.
func (w *World) take(a, b, i int) bool {
	came, ok := w.pipe(a, b).Take(i)
	if ok && w.runs(b) {
		w.called(b, w.places[b].node.Hear(a, came))
	}
	return ok
}

// ask makes a request at a node.
func (w *World) ask(a, op int, id api.ID, text []byte) bool {
	if !w.runs(a) {
		return false
	}
	_, sends, e := w.places[a].node.Ask(op, id, text)
	// Even if it has an error: power may have failed in it.
	w.called(a, sends)
	return e == api.OK
}

// power says for how many writes a disk has power.
func (w *World) power(a, writes int) bool {
	if !w.has(a) {
		return false
	}
	w.places[a].disk.Power(writes)
	return true
}

// calm lets rounds go by.
func (w *World) calm(rounds int) bool {
	if !within(1, rounds, mostRounds) {
		return false
	}
	for range rounds {
		w.round()
	}
	return true
}

// round lets time pass at all nodes, and whatever comes of it arrive.
func (w *World) round() {
	for a := range w.places {
		w.tick(a)
	}
	for w.flow() {
	}
}

// flow lets as many frames as are under way arrive, pair by pair: was anything under way?
func (w *World) flow() bool {
	moved := false
	for a := range w.places {
		for b := range w.places {
			for range w.pipe(a, b).Len() {
				w.take(a, b, 0)
				moved = true
			}
		}
	}
	return moved
}

// called ends a call of a node's: what happened there is noted, and what it sent gets under way; if power failed in it, it runs no more.
func (w *World) called(a int, sends []node.Send) {
	n := w.places[a].node
	if n.Down() {
		w.places[a].node = nil
		return
	}
	for _, e := range n.Events() {
		w.events = append(w.events, Event{Step: w.steps, Node: a, Event: e})
	}
	for _, s := range sends {
		if w.Linked(a, s.N) {
			w.pipe(a, s.N).Put(s.B)
		}
	}
}
