package world_test

import (
	"bytes"
	"math/rand"
	"reflect"
	"slices"
	"testing"
	"time"

	"annulet/api"
	"annulet/node"
	"annulet/world"
)

// plain makes all lists that are empty nil.
func (s shown) plain() shown {
	for i := range s.views {
		s.views[i] = plainView(s.views[i])
		s.disks[i] = someOrNone(s.disks[i])
	}
	for i := range s.flying {
		s.flying[i] = someOrNone(s.flying[i])
	}
	for i := range s.events {
		s.events[i] = plainEvent(s.events[i])
	}
	s.events = someOrNone(s.events)
	return s
}

// P21.2: the same config and the same ops make the same world, whatever else is played in between, and in which memory they lie.
func TestSameWorld(t *testing.T) {
	for seed := range 30 {
		r := rand.New(rand.NewSource(int64(2000 + seed)))
		d, other := wild{r, drawn(r)}, wild{r, drawn(r)}
		a, between := begin(t, d.c), begin(t, other.c)
		var ops []world.Op
		for range 150 {
			o := d.op()
			ops = append(ops, o)
			a.play(o)
			between.play(other.op())
		}
		again, e := world.New(world.Config{IDs: roomy(d.c.IDs, spot(1)), Half: d.c.Half, Paths: d.c.Paths, Disk: d.c.Disk})
		if e != api.OK {
			t.Fatal(e)
		}
		for i, o := range ops {
			o.Text = roomy(o.Text, byte(i))
			again.Do(o)
			between.play(other.op())
			// Asking changes nothing.
			if i%7 == 0 {
				again.Events()
				again.View(i % 3)
				again.Flying(0, 1)
				again.Disk(0)
			}
		}
		b := &bench{t: t, w: again, x: a.x}
		if x, y := a.shown().plain(), b.shown().plain(); !reflect.DeepEqual(x, y) || a.w.Steps() != again.Steps() {
			t.Fatalf("the same ops make %+v, and %+v", x, y)
		}
	}
}

// ends does an op that must end.
func (b *bench) ends(o world.Op) {
	b.t.Helper()
	done := make(chan bool, 1)
	go func() { done <- b.w.Do(o) }()
	select {
	case did := <-done:
		if want := b.x.happens(o); did != want {
			b.t.Fatalf("Do(%+v) is %v", o, did)
		}
	case <-time.After(3 * time.Minute):
		b.t.Fatalf("%+v doesn't end", o)
	}
}

// underWay is how many frames are.
func (b *bench) underWay() int {
	n := 0
	for i := range b.x.c.IDs {
		for j := range b.x.c.IDs {
			n += len(b.w.Flying(i, j))
		}
	}
	return n
}

// P21.3: a round ends, from whatever state; behind it nothing is under way.
func TestRoundsEnd(t *testing.T) {
	most := 0
	for seed := range 80 {
		r := rand.New(rand.NewSource(int64(3000 + seed)))
		d := wild{r, drawn(r)}
		b := begin(t, d.c)
		for range 12 {
			if r.Intn(3) == 0 {
				b.settle()
			}
			for range 40 {
				if o := d.op(); o.Kind != world.Calm {
					b.play(o)
				}
			}
			most = max(most, b.underWay())
			b.ends(calm(1))
			if n := b.underWay(); n != 0 {
				t.Fatalf("behind a round %d frames are under way", n)
			}
		}
		b.whole()
	}
	if most < 20 {
		t.Errorf("at most %d frames were under way", most)
	}
}

// P21.3: a round ends, too, where all pipes are full, of frames of sessions that are and that were.
func TestRoundsOfFullPipesEnd(t *testing.T) {
	for seed := range 4 {
		r := rand.New(rand.NewSource(int64(4000 + seed)))
		b := begin(t, config(2, 128, 100, 0x10, 0x90, 0x30, 0xb0, 0x50, 0xd0))
		b.settle()
		b.play(link(0, 5))
		b.play(calm(3))
		for range 4 {
			for range 30 {
				i, j := r.Intn(6), r.Intn(6)
				b.play(send(i, spot(byte(r.Intn(256))), "x"))
				b.play(put(j, spot(byte(r.Intn(256))), "y"))
				b.play(tick(i))
				b.play(take(i, j, r.Intn(9)))
			}
			i := r.Intn(6)
			b.play(crash(i))
			b.play(boot(i))
		}
		for i := range 6 {
			for j := range 6 {
				for n := 0; b.play(twice(i, j, n)); n += 3 {
				}
			}
		}
		if n := b.underWay(); n < 6*256 {
			t.Errorf("only %d frames are under way", n)
		}
		b.ends(calm(1))
		if n := b.underWay(); n != 0 {
			t.Errorf("behind a round %d frames are under way", n)
		}
		b.whole()
		b.ends(calm(64))
		b.whole()
	}
}

// P21.1 (R3): an op's text and a config's list may be used again; what was told is memory of its own.
func TestMemory(t *testing.T) {
	ids := []api.ID{spot(0x10), spot(0x90)}
	w, e := world.New(world.Config{IDs: ids, Half: 1, Paths: 9, Disk: 20})
	if e != api.OK {
		t.Fatal(e)
	}
	ids[0], ids[1] = spot(7), spot(7)
	for _, o := range []world.Op{boot(0), boot(1), link(0, 1), calm(3)} {
		w.Do(o)
	}
	text := []byte("text")
	put := world.Op{Kind: world.Ask, A: 0, I: api.OpPut, ID: spot(0x11), Text: text}
	send := world.Op{Kind: world.Ask, A: 0, I: api.OpSend, ID: spot(0x90), Text: text}
	w.Do(put)
	w.Do(send)
	copy(text, "else")
	w.Do(world.Op{Kind: world.Take, A: 0, B: 1})
	if w.View(0).ID != spot(0x10) || w.View(1).ID != spot(0x90) {
		t.Error("the identities are others")
	}
	look := func() {
		t.Helper()
		v := w.View(0)
		if len(v.Items) != 1 || string(v.Items[0].Value) != "text" || len(v.Entries) != 1 || !v.Ends[1].Open || len(v.Ends[1].Out) == 0 || len(v.Ends[1].Out[0]) == 0 {
			t.Fatalf("View(0) is %+v", v)
		}
		ups, kept := only(w.Events(), node.EvUp), only(w.Events(), node.EvKept)
		if len(ups) != 1 || string(ups[0].Text) != "text" || len(kept) != 1 || string(kept[0].Item.Value) != "text" {
			t.Fatalf("there came %+v, %+v", ups, kept)
		}
		if f := w.Flying(1, 0); len(f) == 0 || len(f[0]) == 0 || slices.Max(f[0]) == 0 {
			t.Fatalf("%x is under way", f)
		}
		if d := w.Disk(0); slices.Max(d) == 0 {
			t.Fatal("the disk is empty")
		}
	}
	look()
	clear(w.Disk(0))
	v := w.View(0)
	clear(v.Items[0].Value)
	clear(v.Ends[1].Out[0])
	clear(v.Items)
	clear(v.Entries)
	clear(v.Ends)
	for _, e := range w.Events() {
		clear(e.Text)
		clear(e.Item.Value)
	}
	clear(w.Events())
	f := w.Flying(1, 0)
	clear(f[0])
	clear(f)
	look()
}

// P21.1: what was told ahead stays as it was told, whatever happens behind.
func TestToldStays(t *testing.T) {
	b := pair(t)
	b.must(calm(3), put(0, spot(0x11), "one"), send(0, spot(0x90), "x"))
	was, disk, flying := b.shown().plain(), b.w.Disk(0), b.w.Flying(0, 1)
	first := bytes.Clone(disk)
	texts := slices.Concat(flying...)
	b.must(put(0, spot(0x11), "two"), calm(2), crash(0), boot(0), cut(0, 1))
	if !bytes.Equal(first, disk) || !bytes.Equal(texts, slices.Concat(flying...)) {
		t.Error("what was told changed")
	}
	for i, v := range was.views {
		if v.Up && len(v.Items) == 1 && string(v.Items[0].Value) != "one" {
			t.Errorf("the view %d changed", i)
		}
	}
	if n := len(was.events); was.events[n-1].Kind != node.EvStep || was.events[n-1].Step != 6 {
		t.Errorf("the last event was %+v", was.events[n-1])
	}
}
