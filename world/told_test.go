package world_test

import (
	"slices"

	"annulet/api"
	"annulet/disk"
	"annulet/node"
	"annulet/world"
)

// flight is a frame under way.
type flight struct {
	from, to int
	b        []byte
}

// teller is a world, told a second time: its nodes are of layer 20 and stand on disks of layer 5, all else is its own. What is under way is one list, in the order in which it was put.
type teller struct {
	c      world.Config
	disks  map[int]*disk.Disk
	nodes  map[int]*node.Node // those that run
	links  map[[2]int]bool    // by their two places, both ways
	way    []flight
	events []world.Event
	steps  int

	arrived int // how many frames did
}

func newTeller(c world.Config) *teller {
	x := &teller{c: c, disks: map[int]*disk.Disk{}, nodes: map[int]*node.Node{}, links: map[[2]int]bool{}}
	x.c.IDs = slices.Clone(c.IDs)
	for i := range c.IDs {
		x.disks[i] = disk.New(c.Disk)
	}
	return x
}

// happens is the chapter's table.
func (x *teller) happens(o world.Op) bool {
	x.steps++
	at, runs := x.disks[o.A], x.nodes[o.A]
	pair, back := [2]int{o.A, o.B}, [2]int{o.B, o.A}
	switch o.Kind {
	case world.Boot:
		if at != nil && runs == nil {
			n, e := node.New(node.Config{N: o.A, ID: x.c.IDs[o.A], Half: x.c.Half, Paths: x.c.Paths}, at)
			if e == api.OK {
				x.nodes[o.A] = n
				return true
			}
		}
	case world.Crash:
		delete(x.nodes, o.A)
		return runs != nil
	case world.Link, world.Cut:
		up := o.Kind == world.Link
		if at != nil && x.disks[o.B] != nil && o.A != o.B && x.links[pair] != up {
			x.links[pair], x.links[back] = up, up
			x.way = slices.DeleteFunc(x.way, func(f flight) bool {
				return [2]int{f.from, f.to} == pair || [2]int{f.from, f.to} == back
			})
			return true
		}
	case world.Tick:
		return x.ticks(o.A)
	case world.Take, world.Lose, world.Twice:
		return x.moves(o)
	case world.Ask:
		if runs != nil {
			_, sends, e := runs.Ask(o.I, o.ID, slices.Clone(o.Text))
			x.ends(o.A, sends)
			return e == api.OK
		}
	case world.Power:
		at.Power(o.I)
		return at != nil
	case world.Calm:
		if o.I < 1 || 64 < o.I {
			return false
		}
		for range o.I {
			x.rounds()
		}
		return true
	}
	return false
}

// between are where the frames from a place to another stand in the list.
func (x *teller) between(from, to int) []int {
	var l []int
	for i, f := range x.way {
		if f.from == from && f.to == to {
			l = append(l, i)
		}
	}
	return l
}

// moves lets a frame arrive, be lost, or come twice.
func (x *teller) moves(o world.Op) bool {
	l := x.between(o.A, o.B)
	if len(l) == 0 {
		return false
	}
	at := l[uint64(o.I)%uint64(len(l))]
	f := x.way[at]
	if o.Kind == world.Twice {
		if len(l) == 256 {
			return false
		}
		x.way = append(x.way, f)
		return true
	}
	x.way = slices.Delete(x.way, at, at+1)
	if o.Kind == world.Take {
		x.arrives(f)
	}
	return true
}

func (x *teller) arrives(f flight) {
	x.arrived++
	if n := x.nodes[f.to]; n != nil {
		x.ends(f.to, n.Hear(f.from, slices.Clone(f.b)))
	}
}

func (x *teller) ticks(i int) bool {
	n := x.nodes[i]
	if n == nil {
		return false
	}
	var up []bool
	for j := range x.c.IDs {
		up = append(up, x.links[[2]int{i, j}] && x.nodes[j] != nil)
	}
	x.ends(i, n.Tick(up))
	return true
}

// ends is the end of a node's call.
func (x *teller) ends(i int, sends []node.Send) {
	n := x.nodes[i]
	if n.Down() {
		delete(x.nodes, i)
		return
	}
	for _, e := range n.Events() {
		x.events = append(x.events, world.Event{Step: x.steps, Node: i, Event: e})
	}
	for _, s := range sends {
		if x.links[[2]int{i, s.N}] && len(x.between(i, s.N)) < 256 {
			x.way = append(x.way, flight{i, s.N, slices.Clone(s.B)})
		}
	}
}

func (x *teller) rounds() {
	for i := range x.c.IDs {
		x.ticks(i)
	}
	for len(x.way) > 0 {
		for pair := range len(x.c.IDs) * len(x.c.IDs) {
			from, to := pair/len(x.c.IDs), pair%len(x.c.IDs)
			for range x.between(from, to) {
				x.moves(world.Op{Kind: world.Take, A: from, B: to})
			}
		}
	}
}

// flying is what is under way from a place to another.
func (x *teller) flying(from, to int) [][]byte {
	var l [][]byte
	for _, at := range x.between(from, to) {
		l = append(l, x.way[at].b)
	}
	return l
}

func (x *teller) bytesOf(i int) []byte { return x.disks[i].Bytes() }

// view is a node as it stands.
func (x *teller) view(i int) world.View {
	if i < 0 || len(x.c.IDs) <= i {
		return world.View{}
	}
	v := world.View{ID: x.c.IDs[i], Ends: make([]node.End, len(x.c.IDs))}
	if n := x.nodes[i]; n != nil {
		v.Up, v.Inc, v.Entries, v.Items = true, n.Inc(), n.Entries(), n.Items()
		for j := range v.Ends {
			v.Ends[j] = n.End(j)
		}
	}
	return v
}
