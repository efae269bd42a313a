package watch_test

import (
	"reflect"
	"slices"
	"testing"

	"annulet/api"
	"annulet/watch"
	"annulet/world"
)

func boot(a int) world.Op          { return world.Op{Kind: world.Boot, A: a} }
func crash(a int) world.Op         { return world.Op{Kind: world.Crash, A: a} }
func link(a, b int) world.Op       { return world.Op{Kind: world.Link, A: a, B: b} }
func cut(a, b int) world.Op        { return world.Op{Kind: world.Cut, A: a, B: b} }
func tick(a int) world.Op          { return world.Op{Kind: world.Tick, A: a} }
func take(a, b, i int) world.Op    { return world.Op{Kind: world.Take, A: a, B: b, I: i} }
func lose(a, b, i int) world.Op    { return world.Op{Kind: world.Lose, A: a, B: b, I: i} }
func twice(a, b, i int) world.Op   { return world.Op{Kind: world.Twice, A: a, B: b, I: i} }
func power(a, writes int) world.Op { return world.Op{Kind: world.Power, A: a, I: writes} }
func calm(rounds int) world.Op     { return world.Op{Kind: world.Calm, I: rounds} }

func send(a int, to api.ID, text string) world.Op { return ask(a, api.OpSend, to, text) }
func put(a int, at api.ID, value string) world.Op { return ask(a, api.OpPut, at, value) }
func ask(a, op int, id api.ID, text string) world.Op {
	return world.Op{Kind: world.Ask, A: a, I: op, ID: id, Text: []byte(text)}
}

// config is a world's, of nodes at these spots.
func config(half, paths, sectors int, spots ...byte) world.Config {
	c := world.Config{Half: half, Paths: paths, Disk: sectors}
	for _, at := range spots {
		c.IDs = append(c.IDs, spot(at))
	}
	return c
}

// bench is a world that is watched.
type bench struct {
	*world.World
	t   *testing.T
	c   world.Config
	ops []world.Op // what was done
}

func begin(t *testing.T, c world.Config) *bench {
	t.Helper()
	w, e := world.New(c)
	if e != api.OK {
		t.Fatalf("New(%v): %v", c, e)
	}
	return &bench{World: w, t: t, c: c}
}

func (b *bench) nodes() int { return len(b.c.IDs) }

func (b *bench) views() []world.View { return watch.Views(b.World, b.nodes()) }

// play does an op, behind which the world must be traced: did it happen?
func (b *bench) play(o world.Op) bool {
	b.t.Helper()
	b.ops = append(b.ops, o)
	did := b.Do(o)
	if !watch.Traced(b.views()) {
		b.t.Fatalf("a world of %+v isn't traced behind %+v", b.c, b.ops)
	}
	return did
}

// must does ops that are to happen.
func (b *bench) must(ops ...world.Op) {
	b.t.Helper()
	for _, o := range ops {
		if !b.play(o) {
			b.t.Fatalf("%+v doesn't happen", o)
		}
	}
}

// look looks whether a world is settled and ringed.
func (b *bench) look(when string, settled, ringed bool) {
	b.t.Helper()
	vs := b.views()
	is(b.t, when+": Settled", watch.Settled(vs, b.Linked), settled)
	is(b.t, when+": Ringed", watch.Ringed(vs, b.Linked, b.c.Half), ringed)
}

// linked tells of one link that it is up, and of no other.
func linked(a, b int) func(a, b int) bool {
	return func(x, y int) bool { return x == a && y == b || x == b && y == a }
}

// plain makes all lists that are empty nil, as they mean the same.
func plain(v world.View) world.View {
	v.Entries, v.Items, v.Ends = someOrNone(v.Entries), slices.Clone(someOrNone(v.Items)), slices.Clone(someOrNone(v.Ends))
	for i := range v.Items {
		v.Items[i].Value = someOrNone(v.Items[i].Value)
	}
	for i := range v.Ends {
		v.Ends[i].Out = someOrNone(v.Ends[i].Out)
	}
	return v
}

func someOrNone[T any](l []T) []T {
	if len(l) == 0 {
		return nil
	}
	return l
}

func same(a, b world.View) bool { return reflect.DeepEqual(plain(a), plain(b)) }
