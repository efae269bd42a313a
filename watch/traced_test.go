package watch_test

import (
	"slices"
	"testing"

	"annulet/api"
	"annulet/watch"
	"annulet/world"
)

// why tells by what a hop stands.
func why(vs []world.View, a int, x api.Entry, towardA bool) string {
	b, back := x.Nb, func(y api.Entry) int { return y.Na }
	if towardA {
		b, back = x.Na, func(y api.Entry) int { return y.Nb }
	}
	switch {
	case b == -1:
		return "at the path's end"
	case b < 0 || b >= len(vs) || !vs[b].Up:
		return "towards one that doesn't run"
	case !watch.Paired(vs, a, b):
		return "by a session that died"
	case slices.ContainsFunc(vs[b].Entries, func(y api.Entry) bool { return y.P == x.P && back(y) == a }):
		return "by the other one's entry"
	case watch.Owes(vs, a, b, x.P):
		return "by what waits here"
	case watch.Owes(vs, b, a, x.P):
		return "by what waits there"
	}
	return "by nothing"
}

// whys are by what the hops of all entries stand.
func whys(c map[string]int, vs []world.View) {
	for a, v := range vs {
		for _, x := range v.Entries {
			c[why(vs, a, x, true)]++
			c[why(vs, a, x, false)]++
		}
	}
}

// P22.2: worlds of one to six nodes, and tables of any size, are traced behind each op; P22.1: and all calls answer as said of them.
func TestTracedDrawn(t *testing.T) {
	c, reasons, far := count{}, map[string]int{}, 0
	scripts(t, 0, 150, func(t *testing.T, d draw) {
		s := newScript(t, d, d.config(1+d.Intn(api.MaxNodes), of(d, 1, 2, 3, 5, 9, 128)))
		s.begins()
		for range 6 {
			s.goes(40)
			vs := s.views()
			whys(reasons, vs)
			var paths []api.Path
			var entries []api.Entry
			for _, v := range vs {
				for _, x := range v.Entries {
					paths = append(paths, x.P)
				}
				entries = append(entries, v.Entries...)
			}
			if len(paths) > 0 {
				far++
				paths, entries = paths[len(paths)-1:], entries[:min(5, len(entries))]
			}
			agree(t, c, vs, s.Linked, paths, entries)
		}
	})
	if c["Traced"][0] > 0 {
		t.Error("a world isn't traced")
	}
	delete(c, "Traced")
	c.both(t, 20)
	for _, by := range []string{"at the path's end", "towards one that doesn't run", "by a session that died", "by the other one's entry", "by what waits here", "by what waits there"} {
		if reasons[by] < 20 {
			t.Errorf("%d hops stand %s", reasons[by], by)
		}
	}
	if reasons["by nothing"] > 0 || far < 300 {
		t.Errorf("%d hops stand by nothing; %d views had entries", reasons["by nothing"], far)
	}
}

// allRows plays all rows of so many ops behind a beginning.
func allRows(beginning func() *bench, ops []world.Op, most int) {
	at := make([]int, most)
	for {
		b := beginning()
		for _, i := range at {
			b.play(ops[i])
		}
		i := 0
		for ; i < most; i++ {
			if at[i]++; at[i] < len(ops) {
				break
			}
			at[i] = 0
		}
		if i == most {
			return
		}
	}
}

// P22.2: all short rows of ops, where a path between two is about to be laid, and where it stands.
func TestTracedRowsOfTwo(t *testing.T) {
	ops := []world.Op{
		crash(1), boot(1), crash(0), boot(0), cut(0, 1), link(0, 1), tick(0), tick(1),
		take(0, 1, 0), take(0, 1, -1), take(1, 0, 0), take(1, 0, -1), lose(1, 0, 0), twice(0, 1, 0),
	}
	for rounds, most := range map[int]int{1: 4, 2: 3} {
		allRows(func() *bench {
			b := begin(t, config(1, 2, 20, 0x10, 0x90))
			for _, o := range []world.Op{boot(0), boot(1), link(0, 1), calm(rounds), tick(0), tick(1)} {
				b.Do(o)
			}
			return b
		}, ops, most)
	}
}

// P22.2: all short rows of ops, where paths of three in a row are about to be laid, by tables that are too small, too.
func TestTracedRowsOfThree(t *testing.T) {
	ops := []world.Op{
		crash(2), boot(2), crash(1), boot(1), cut(1, 2), link(1, 2), cut(0, 1), link(0, 1), tick(0), tick(1), tick(2),
		take(0, 1, 0), take(1, 0, 0), take(1, 2, 0), take(2, 1, 0), take(1, 2, -1), take(1, 0, -1),
	}
	for _, paths := range []int{1, 9} {
		for _, rounds := range []int{3} {
			allRows(func() *bench {
				b := begin(t, config(1, paths, 20, 0x50, 0x90, 0x10))
				for _, o := range []world.Op{boot(0), boot(1), boot(2), link(0, 1), link(1, 2), calm(rounds), tick(0), tick(1), tick(2), take(0, 1, 0), take(1, 2, 0)} {
					b.Do(o)
				}
				return b
			}, ops, 3)
		}
	}
}

// arrive lets all that is under way between two arrive.
func (b *bench) arrive(from, to int) {
	b.t.Helper()
	for b.play(take(from, to, 0)) {
	}
}

// P22.2: a path is laid and taken away, hop by hop; its entries stand by what waits, till that came.
func TestTracedPath(t *testing.T) {
	b := begin(t, config(1, 9, 20, 0x50, 0x30, 0x90))
	b.must(boot(0), boot(1), boot(2), link(0, 1), link(1, 2), calm(2), tick(0), tick(1), tick(2))
	stands := func(by string) bool {
		c := map[string]int{}
		whys(c, b.views())
		return c[by] > 0
	}
	seen := map[string]bool{}
	for range 6 {
		for _, pair := range [][2]int{{0, 1}, {2, 1}, {1, 0}, {1, 2}} {
			for b.play(take(pair[0], pair[1], 0)) {
				for _, by := range []string{"by what waits here", "by what waits there"} {
					seen["laid, "+by] = seen["laid, "+by] || stands(by)
				}
			}
		}
		b.must(tick(0), tick(1), tick(2))
	}
	b.must(calm(4))
	b.look("when it is laid", true, true)
	b.must(crash(2), tick(1))
	for _, by := range []string{"by what waits here", "by what waits there"} {
		seen["taken away, "+by] = stands(by)
	}
	b.must(lose(1, 0, 0), tick(0))
	b.arrive(1, 0)
	b.must(tick(1))
	b.arrive(1, 0)
	b.arrive(0, 1)
	b.must(calm(2))
	b.look("when it is taken away", true, true)
	for _, what := range []string{"laid, by what waits here", "laid, by what waits there", "taken away, by what waits there"} {
		is(t, what, seen[what], true)
	}
}

// P22.2: where a table is full, what is refused is taken back, and the world is traced all the while.
func TestTracedWhenFull(t *testing.T) {
	for paths := 1; paths <= 4; paths++ {
		b := begin(t, config(2, paths, 60, 0x10, 0x90, 0x30, 0xb0, 0x50, 0xd0))
		for a := range 6 {
			b.must(boot(a))
			if a > 0 {
				b.must(link(a-1, a))
			}
		}
		for range 4 {
			for a := range 6 {
				b.must(tick(a))
			}
			for moved := true; moved; {
				moved = false
				for a := range 6 {
					for c := range 6 {
						moved = b.play(take(a, c, 0)) || moved
					}
				}
			}
		}
		b.must(calm(9), crash(2), calm(1), boot(2), calm(9))
		full := 0
		for _, v := range b.views() {
			if len(v.Entries) == paths {
				full++
			}
		}
		if full == 0 {
			t.Errorf("no table of %d is full", paths)
		}
	}
}

// P22.2: paths are laid and taken away over an end at which as many texts wait as may, and more.
func TestTracedOverFullWindow(t *testing.T) {
	b := begin(t, config(1, api.MaxPaths, 200, 0x90, 0x50, 0x10))
	b.must(boot(0), boot(1), boot(2), link(0, 1), link(1, 2), calm(3))
	for range 130 {
		b.must(send(1, spot(0x90), "x"))
	}
	waits := func() int { return len(b.views()[1].Ends[0].Out) }
	if n := waits(); n != api.MaxWait {
		t.Fatalf("%d texts wait", n)
	}
	// From the second node to the first nothing comes but what says that something came.
	oneWay := func() {
		for range 40 {
			b.arrive(0, 1)
			b.arrive(1, 2)
			b.arrive(2, 1)
			for l := b.Flying(1, 0); len(l) > 0; l = l[1:] {
				if l[0][1] == api.Ack {
					b.must(take(1, 0, 0))
				} else {
					b.must(lose(1, 0, 0))
				}
			}
		}
	}
	for range 5 {
		b.must(crash(2), boot(2))
		for range 3 {
			b.must(tick(1))
			oneWay()
			b.must(tick(2))
			oneWay()
			b.must(tick(0))
			oneWay()
		}
	}
	if n := waits(); n <= api.MaxWait+5 {
		t.Errorf("%d texts wait", n)
	}
	b.heals()
}

// P22.2: worlds of nobody, and of one.
func TestTracedAlone(t *testing.T) {
	b := begin(t, config(1, 1, 3, 0x10))
	for _, o := range []world.Op{tick(0), calm(1), boot(0), tick(0), link(0, 0), send(0, spot(0x10), "x"), put(0, spot(0x11), "y"), calm(2), crash(0), {}, boot(-1), boot(6)} {
		b.play(o)
	}
	b.look("of one that doesn't run", true, true)
	for range 9 {
		b.play(boot(0))
		b.look("of one", true, true)
		b.play(crash(0))
	}
	is(t, "Traced of no world", watch.Traced(watch.Views(nil, 6)), true)
}
