package script

import (
	"annulet/api"
	"annulet/ident"
	"annulet/label"
	"annulet/node"
	"annulet/watch"
	"annulet/world"
)

// begin is a play's world, ahead of its steps.
func begin(p Play) (*world.World, api.Errno) {
	c := world.Config{Half: p.Half, Paths: p.Paths, Disk: p.Disk}
	for _, name := range p.Names {
		id, e := label.ID(name)
		if e != api.OK {
			return nil, e
		}
		c.IDs = append(c.IDs, id)
	}
	return world.New(c)
}

// Run does a play: a line for each step, and behind it one for each thing that is told.
func Run(p Play) []string {
	w, e := begin(p)
	if e != api.OK {
		return nil
	}
	var answers lines
	ops := make([]int, len(p.Steps)) // how many the world was handed by then
	for i, s := range p.Steps {
		answers.lay(answer(w, p, s)...)
		ops[i] = w.Steps()
	}
	var told lines
	events := w.Events() // all that ever were: so they are asked for once
	for i, line := range answers {
		told = append(told, line)
		for len(events) > 0 && events[0].Step <= ops[i] {
			told.event(events[0])
			events = events[1:]
		}
	}
	return told
}

// answer does a step, and answers in words.
func answer(w *world.World, p Play, s Step) []any {
	nodes := len(p.Names)
	switch n := s.N[0]; s.Word {
	case "ring":
		vs := watch.Views(w, nodes)
		return whether(watch.Settled(vs, w.Linked) && watch.Ringed(vs, w.Linked, p.Half))
	case "state":
		if n < 0 || n >= nodes {
			return whether(false)
		}
		v := w.View(n)
		return []any{"entries", len(v.Entries), "items", len(v.Items), "friends", len(watch.Friends(v))}
	}
	return whether(w.Do(op(s)))
}

// whether is the answer of a step that is so, or isn't.
func whether(so bool) []any {
	if so {
		return []any{"ok"}
	}
	return []any{"no"}
}

// op is what a step does; if that is nothing, an op that never happens.
func op(s Step) world.Op {
	f, _ := formOf(s.Word)
	// Numbers that the form doesn't have do nothing: an op of that kind isn't asked for them.
	o := world.Op{Kind: f.kind, A: s.N[0], B: s.N[1], I: s.N[2]}
	switch f.kind {
	case world.Calm:
		o.I = s.N[0]
	case world.Power:
		o.I = s.N[1]
	case world.Ask:
		id, e := label.ID(s.Name)
		if e != api.OK {
			return world.Op{}
		}
		o.I, o.ID = f.ask, id
		if f.text {
			o.Text = []byte(s.Text)
		}
	}
	return o
}

// event tells what happened at a node, if it is of those that are told.
func (l *lines) event(e world.Event) {
	switch e.Kind {
	case node.EvUp:
		l.lay(e.Node, "up", ident.Print(e.Src), string(e.Text))
	case node.EvAnswer:
		words := []any{e.Node, "answer", int(uint32(e.Req)), int(e.Code), int(e.Item.Ver.N)}
		if len(e.Item.Value) > 0 {
			words = append(words, string(e.Item.Value))
		}
		l.lay(words...)
	case node.EvKept:
		l.lay(e.Node, "kept", int(e.Item.Ver.N), string(e.Item.Value))
	case node.EvFull:
		l.lay(e.Node, "full")
	case node.EvLost:
		l.lay(e.Node, "lost")
	}
}
