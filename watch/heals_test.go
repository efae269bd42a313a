package watch_test

import (
	"slices"
	"testing"

	"annulet/api"
	"annulet/node"
	"annulet/watch"
	"annulet/world"
)

const (
	settles = 8  // rounds behind which a world is settled
	longer  = 12 // rounds for which it is looked at further
)

// heals lets a world have power, and be calm; it must be settled and ringed in time, and stay so. It tells behind how many rounds it was.
func (b *bench) heals() (settled, ringed int) {
	b.t.Helper()
	for a := range b.nodes() {
		b.must(power(a, -1))
	}
	n := b.nodes()
	limit := 20 + 2*n*n
	rounds := func(k, many int) {
		b.t.Helper()
		b.must(calm(many))
		vs := b.views()
		if !watch.Settled(vs, b.Linked) {
			settled = k + 1
		}
		if !watch.Ringed(vs, b.Linked, b.c.Half) {
			ringed = k + 1
		}
	}
	for k := 1; k <= limit+longer; k++ {
		rounds(k, 1)
	}
	rounds(limit+longer+1, 64)
	if settled > settles {
		b.t.Fatalf("a world of %+v isn't settled before the round %d behind %+v", b.c, settled, b.ops)
	}
	if b.c.Paths == api.MaxPaths && ringed > limit {
		b.t.Fatalf("a world of %+v isn't ringed before the round %d behind %+v", b.c, ringed, b.ops)
	}
	return settled, ringed
}

// P22.3: worlds of one to six nodes heal, whatever happened; and again, behind what happens then.
func TestHealsDrawn(t *testing.T) {
	healed, later := 0, 0
	scripts(t, 1000, 60, func(t *testing.T, d draw) {
		s := newScript(t, d, d.config(1+d.Intn(api.MaxNodes), api.MaxPaths))
		s.begins()
		for range 1 + d.Intn(2) {
			s.goes(100 + d.Intn(150))
			// Some run no more, and some links are down: the others heal without them.
			for a := range s.nodes() {
				if d.Intn(3) > 0 {
					s.play(power(a, -1))
					s.play(boot(a))
				}
			}
			was := s.views()
			if !watch.Settled(was, s.Linked) || !watch.Ringed(was, s.Linked, s.c.Half) {
				healed++
			}
			if _, ringed := s.heals(); ringed > 2 {
				later++
			}
		}
	})
	if healed < 50 || later < 10 {
		t.Errorf("%d worlds had to heal, %d for more than two rounds", healed, later)
	}
}

// P22.3: with tables of any size a world is settled in time, and stays so.
func TestSettlesDrawn(t *testing.T) {
	short := 0
	scripts(t, 2000, 40, func(t *testing.T, d draw) {
		s := newScript(t, d, d.config(2+d.Intn(api.MaxNodes-1), of(d, 1, 2, 3, 4, 6, 9, 15)))
		s.begins()
		s.goes(100 + d.Intn(150))
		if _, ringed := s.heals(); ringed > 50 {
			short++
		}
	})
	if short < 5 {
		t.Errorf("%d tables were too small", short)
	}
}

// shapes are all ways in which so many nodes may be linked.
func shapes(nodes int, shape func(links [][2]int)) {
	var pairs [][2]int
	for a := range nodes {
		for b := range a {
			pairs = append(pairs, [2]int{a, b})
		}
	}
	for bits := range 1 << len(pairs) {
		var links [][2]int
		for i, pair := range pairs {
			if bits>>i&1 == 1 {
				links = append(links, pair)
			}
		}
		shape(links)
	}
}

// P22.3: however nodes are linked (all ways of one to four of them), they come together from nothing.
func TestHealsShapes(t *testing.T) {
	spots := []byte{0x90, 0x10, 0xb0, 0x30}
	for n := 1; n <= 4; n++ {
		shapes(n, func(links [][2]int) {
			b := begin(t, config(1, api.MaxPaths, 20, spots[:n]...))
			for a := range n {
				b.must(boot(a))
			}
			for _, pair := range links {
				b.must(link(pair[0], pair[1]))
			}
			b.heals()
		})
	}
}

// six is a world of six in a row that has healed.
func six(t *testing.T, half int) *bench {
	t.Helper()
	b := begin(t, config(half, api.MaxPaths, 400, 0x10, 0x90, 0x30, 0xb0, 0x50, 0xd0))
	for a := range 6 {
		b.must(boot(a))
		if a > 0 {
			b.must(link(a-1, a))
		}
	}
	b.heals()
	return b
}

// P22.3: a world heals whichever node crashes, is begun anew or is lost, and whichever link falls or rises.
func TestHealsOneThing(t *testing.T) {
	b := six(t, 1)
	for a := range 6 {
		b.must(crash(a))
		b.heals()
		b.must(boot(a))
		b.heals()
		b.must(crash(a), boot(a))
		b.heals()
	}
	for a := range 5 {
		b.must(cut(a, a+1))
		b.heals()
		b.must(link(a+1, a))
		b.heals()
		b.must(cut(a, a+1), link(a, a+1))
		b.heals()
	}
	b.must(link(0, 5), link(1, 4), link(0, 3))
	b.heals()
	b.must(cut(2, 3), cut(0, 5), cut(1, 4), cut(0, 3), crash(1), crash(2), boot(2))
	b.heals()
}

// P22.3: a world heals where all pipes and windows are full, of frames of sessions that are and that were.
func TestHealsWhenFull(t *testing.T) {
	b := six(t, 2)
	for k := range 4 {
		for range 45 {
			for a := range 6 {
				b.Do(send(a, spot(byte(37*k+16*a)), "x"))
				b.Do(put(a, spot(byte(64*a+k)), "y"))
				b.Do(tick(a))
			}
		}
		b.Do(crash(k))
		b.Do(boot(k))
		for a := range 6 {
			b.Do(take(k, a, 0))
			b.Do(take(a, k, -1))
		}
	}
	waits, flies := 0, 0
	for a := range 6 {
		for c := range 6 {
			for i := 0; b.Do(twice(a, c, i)); i += 3 {
			}
			waits = max(waits, len(b.View(a).Ends[c].Out))
			flies += len(b.Flying(a, c))
		}
	}
	if waits < 128 || flies < 10*256 {
		t.Errorf("%d texts wait; %d frames are under way", waits, flies)
	}
	b.heals()
}

// P22.3: a world heals while there is more to hand on than its windows take in a round.
func TestHealsWithManyItems(t *testing.T) {
	b := begin(t, config(3, api.MaxPaths, api.MaxSectors, 0x10, 0x90, 0x30, 0xb0))
	for a := range 4 {
		b.must(boot(a))
		for i := range 60 {
			b.must(put(a, api.ID{byte(60*a + i), byte(a)}, "value"))
		}
	}
	b.must(link(0, 1), link(1, 2), link(1, 3))
	b.heals()
	for a, v := range b.views() {
		if len(v.Items) <= 60 {
			t.Errorf("nothing was handed to %d", a)
		}
	}
}

// P22.3: a world heals where of each pair one way lets nothing through but what says that something came.
func TestHealsOneWay(t *testing.T) {
	b := six(t, 1)
	isAck := func(l []byte) bool { return len(l) > 1 && l[1] == api.Ack }
	for k := range 30 {
		for a := range 6 {
			b.must(tick(a))
		}
		for a := range 6 {
			for c := range 6 {
				for l := b.Flying(a, c); len(l) > 0; l = l[1:] {
					if a < c || isAck(l[0]) {
						b.Do(take(a, c, 0))
					} else {
						b.Do(lose(a, c, 0))
					}
				}
			}
		}
		if k%7 == 3 {
			b.must(crash(k%6), boot(k%6))
		}
	}
	b.heals()
}

// P22.3: a world heals where power failed at any write of a beginning, or of what is kept.
func TestHealsWithoutPower(t *testing.T) {
	for writes := range 12 {
		b := begin(t, config(1, api.MaxPaths, 60, 0x10, 0x90, 0x50))
		for a := range 3 {
			b.must(power(a, writes))
			b.play(boot(a))
			b.play(link(a, (a+1)%3))
		}
		b.must(calm(2))
		for a := range 3 {
			b.play(put(a, spot(byte(64*a)), "x"))
			b.must(calm(1))
		}
		for a := range 3 {
			b.must(power(a, -1))
			b.play(boot(a))
		}
		b.heals()
		for _, v := range b.views() {
			is(t, "Up of a node that has power", v.Up, true)
		}
	}
}

// P22.3: a world that has healed stays so for as long as nothing but calm rounds happens; what is asked for in it changes nothing of it.
func TestStaysHealed(t *testing.T) {
	b := six(t, 2)
	was := b.views()
	for _, rounds := range []int{1, 2, 63, 64, 64} {
		b.must(calm(rounds))
		b.look("later", true, true)
	}
	for a, v := range b.views() {
		if !slices.Equal(v.Entries, was[a].Entries) {
			t.Errorf("the entries of %d are %+v, and were %+v", a, v.Entries, was[a].Entries)
		}
	}
	b.must(send(0, spot(0x90), "x"), put(3, spot(0x91), "y"))
	b.look("with packets under way", false, true)
	b.must(calm(2))
	b.look("when they came", true, true)
	ups := slices.DeleteFunc(b.Events(), func(e world.Event) bool { return e.Kind != node.EvUp })
	if len(ups) != 1 {
		t.Errorf("there came %+v", ups)
	}
}
