package world_test

import (
	"math/rand"
	"testing"

	"annulet/api"
	"annulet/world"
)

// allRows plays all rows of so many ops behind a beginning, and looks at all that is shown behind each.
func allRows(t *testing.T, beginning func() *bench, ops []world.Op, most int) {
	t.Helper()
	at := make([]int, most)
	for {
		b := beginning()
		for _, i := range at {
			b.play(ops[i])
		}
		b.whole()
		b.same()
		i := 0
		for ; i < most; i++ {
			if at[i]++; at[i] < len(ops) {
				break
			}
			at[i] = 0
		}
		if i == most {
			return
		}
	}
}

// P21.1: all short rows of ops, from a world in which nothing happened yet.
func TestRowsFromNothing(t *testing.T) {
	ops := []world.Op{
		boot(0), boot(1), crash(0), link(0, 1), link(1, 0), cut(0, 1), tick(0), tick(1), take(0, 1, 0), take(1, 0, 1),
		power(0, 1), calm(1), put(0, spot(0x10), "x"), twice(0, 1, 0), {},
	}
	c := config(1, 1, 6, 0x10, 0x90)
	for most := 1; most <= 4; most++ {
		allRows(t, func() *bench { return begin(t, c) }, ops, most)
	}
}

// P21.1: all short rows of ops, from two nodes that run and stand, with something under way.
func TestRowsFromPair(t *testing.T) {
	ops := []world.Op{
		crash(1), boot(1), cut(1, 0), link(0, 1), tick(0), tick(1), take(0, 1, 0), take(0, 1, -1), take(1, 0, 0), lose(0, 1, 1), twice(1, 0, 0),
		send(0, spot(0x90), "hi"), put(1, spot(0x11), "v"), get(0, spot(0x91)), power(1, 1), power(1, -1), calm(1), calm(2),
	}
	c := config(1, 4, 9, 0x10, 0x90)
	beginning := func() *bench {
		b := begin(t, c)
		for _, o := range []world.Op{boot(0), boot(1), link(0, 1), calm(2), put(0, spot(0x91), "w"), tick(1), tick(0)} {
			b.play(o)
		}
		return b
	}
	for most := 1; most <= 3; most++ {
		allRows(t, beginning, ops, most)
	}
}

// wild is a draw of ops.
type wild struct {
	r *rand.Rand
	c world.Config
}

// number is one of those that are right, mostly.
func (d wild) number(right int) int {
	switch d.r.Intn(40) {
	case 0:
		return -1
	case 1:
		return right
	case 2:
		return []int{-1 << 63, 1<<63 - 1, 64, 65, 1 << 32}[d.r.Intn(5)]
	}
	return d.r.Intn(right)
}

// id is a node's, or one near to it.
func (d wild) id() api.ID {
	id := d.c.IDs[d.r.Intn(len(d.c.IDs))]
	id[d.r.Intn(16)] += byte(d.r.Intn(2))
	return id
}

// kind is any, those that are needed most the most often.
func (d wild) kind() int {
	often := []int{
		world.Tick, world.Tick, world.Tick, world.Tick, world.Take, world.Take, world.Take, world.Take, world.Take, world.Take, world.Take, world.Take,
		world.Ask, world.Ask, world.Link, world.Link, world.Boot, world.Boot,
	}
	if i := d.r.Intn(30); i < len(often) {
		return often[i]
	}
	return d.r.Intn(13)
}

func (d wild) op() world.Op {
	n := len(d.c.IDs)
	o := world.Op{Kind: d.kind(), A: d.number(n), B: d.number(n), I: d.r.Intn(5), ID: d.id(), Text: []byte("text")[:d.r.Intn(5)]}
	switch o.Kind {
	case world.Take, world.Lose, world.Twice:
		o.I = []int{0, 0, d.number(9)}[d.r.Intn(3)]
	case world.Power:
		o.I = []int{-1, -1, d.r.Intn(9)}[d.r.Intn(3)]
	case world.Calm:
		o.I = d.r.Intn(3)
	}
	return o
}

// drawn is a world's config.
func drawn(r *rand.Rand) world.Config {
	c := world.Config{Half: 1 + r.Intn(3), Paths: []int{1, 3, 9, 128}[r.Intn(4)], Disk: []int{3, 9, 30, 60}[r.Intn(4)]}
	for _, at := range r.Perm(8)[:1+r.Intn(api.MaxNodes)] {
		c.IDs = append(c.IDs, api.ID{byte(32*at + r.Intn(32)), 15: byte(r.Intn(256))})
	}
	return c
}

// P21.1: long rows of ops that are drawn, at worlds of one to six nodes.
func TestDrawnRows(t *testing.T) {
	for seed := range 60 {
		r := rand.New(rand.NewSource(int64(seed)))
		d := wild{r, drawn(r)}
		b := begin(t, d.c)
		for range 250 {
			b.play(d.op())
			if r.Intn(3) == 0 {
				b.same()
			}
		}
		b.whole()
		b.whole()
	}
}

// settle lets all run and have power, and links them in a row.
func (b *bench) settle() {
	b.t.Helper()
	for i := range b.x.c.IDs {
		b.play(power(i, -1))
		b.play(boot(i))
		b.play(link(i-1, i))
	}
}

// P21.1: the same, where all runs first, so that there are paths, items and packets.
func TestDrawnRowsOfThoseThatStand(t *testing.T) {
	for seed := range 40 {
		r := rand.New(rand.NewSource(int64(1000 + seed)))
		d := wild{r, drawn(r)}
		b := begin(t, d.c)
		for range 4 {
			b.settle()
			b.play(calm(1 + r.Intn(6)))
			b.same()
			for range 60 {
				b.play(d.op())
			}
			b.same()
		}
		b.whole()
	}
}
