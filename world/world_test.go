package world_test

import (
	"slices"
	"testing"

	"annulet/api"
	"annulet/frame"
	"annulet/node"
	"annulet/world"
)

// P21.1: which worlds there are.
func TestNew(t *testing.T) {
	six := config(1, 1, 3, 1, 2, 3, 4, 5, 6)
	with := func(change func(c *world.Config)) world.Config {
		c := six
		c.IDs = slices.Clone(six.IDs)
		change(&c)
		return c
	}
	right := []world.Config{
		six,
		config(1, 1, 3, 7),
		config(1, 1, 3, 0),
		config(3, 128, 4096, 0, 255),
		config(2, 64, 100, 9, 8, 7),
		{IDs: []api.ID{{15: 1}, {15: 2}}, Half: 1, Paths: 1, Disk: 3},
	}
	for _, c := range right {
		begin(t, c).same()
	}
	wrong := []struct {
		c world.Config
		e api.Errno
	}{
		{world.Config{}, api.ErrArg},
		{with(func(c *world.Config) { c.IDs = nil }), api.ErrArg},
		{with(func(c *world.Config) { c.IDs = []api.ID{} }), api.ErrArg},
		{with(func(c *world.Config) { c.IDs = append(c.IDs, spot(7)) }), api.ErrArg},
		{with(func(c *world.Config) { c.IDs = append(c.IDs, spot(1)) }), api.ErrArg},
		{with(func(c *world.Config) { c.IDs = make([]api.ID, 1000) }), api.ErrArg},
		{with(func(c *world.Config) { c.IDs[5] = spot(1) }), api.ErrThere},
		{with(func(c *world.Config) { c.IDs[1] = spot(1) }), api.ErrThere},
		{with(func(c *world.Config) { c.IDs[4] = spot(6) }), api.ErrThere},
		{config(3, 128, 4096, 3, 3), api.ErrThere},
		{with(func(c *world.Config) { c.Half, c.IDs[1] = 0, spot(1) }), api.ErrArg},
		{with(func(c *world.Config) { c.Paths, c.IDs[1] = 129, spot(1) }), api.ErrArg},
		{with(func(c *world.Config) { c.Disk, c.IDs[1] = 2, spot(1) }), api.ErrArg},
	}
	for _, n := range []int{-1 << 63, -1, 0, 4, 1<<63 - 1} {
		wrong = append(wrong, struct {
			c world.Config
			e api.Errno
		}{with(func(c *world.Config) { c.Half = n }), api.ErrArg})
	}
	for _, n := range []int{-1 << 63, -1, 0, 129, 1<<63 - 1} {
		wrong = append(wrong, struct {
			c world.Config
			e api.Errno
		}{with(func(c *world.Config) { c.Paths = n }), api.ErrArg})
	}
	for _, n := range []int{-1 << 63, -1, 0, 1, 2, 4097, 1<<63 - 1} {
		wrong = append(wrong, struct {
			c world.Config
			e api.Errno
		}{with(func(c *world.Config) { c.Disk = n }), api.ErrArg})
	}
	for _, x := range wrong {
		ids := slices.Clone(x.c.IDs)
		if w, e := world.New(x.c); w != nil || e != x.e {
			t.Errorf("New(%v) is %v, %v", x.c, w, e)
		}
		if !slices.Equal(ids, x.c.IDs) {
			t.Errorf("New changed the list of IDs to %v", x.c.IDs)
		}
	}
}

// P21.1: a world in which nothing happened yet.
func TestBeginning(t *testing.T) {
	b := begin(t, config(1, 9, 5, 1, 2, 3))
	b.same()
	for i := range 3 {
		v := b.w.View(i)
		if v.Up || v.ID != spot(byte(i+1)) || v.Inc != 0 || len(v.Entries)+len(v.Items) != 0 {
			t.Errorf("View(%d) is %+v", i, v)
		}
		if d := b.w.Disk(i); len(d) != 5*64 || slices.Max(d) != 0 {
			t.Errorf("Disk(%d) is %x", i, d)
		}
		for j := range 3 {
			if b.w.Linked(i, j) || len(b.w.Flying(i, j)) != 0 {
				t.Errorf("there is something between %d and %d", i, j)
			}
		}
	}
	if len(b.w.Events()) != 0 || b.w.Steps() != 0 {
		t.Error("something happened")
	}
}

// P21.1: the chapter's example. Behind two rounds there is a path of each one's making, as both asked for each other, ahead of knowing; one of them goes in the third.
func TestExample(t *testing.T) {
	b := begin(t, config(1, 9, 40, 0x10, 0x90))
	b.must(boot(0), boot(1), link(0, 1), calm(2))
	for i := range 2 {
		if v := b.w.View(i); len(v.Entries) != 2 {
			t.Errorf("View(%d) is %+v", i, v)
		}
	}
	b.must(calm(1))
	for i := range 2 {
		if v := b.w.View(i); len(v.Entries) != 1 || !v.Up || v.Inc != 1 || len(v.Ends) != 2 || !v.Ends[1-i].Open {
			t.Errorf("View(%d) is %+v", i, v)
		}
	}
	b.must(send(0, spot(0x90), "hi"), calm(1))
	l := b.since(5)
	if k := kinds(l); !slices.Equal(k, [][2]int{{node.EvStep, 0}, {node.EvUp, 1}, {node.EvStep, 1}, {node.EvAnswer, 0}}) {
		t.Fatalf("there came %v", k)
	}
	for i, step := range []int{6, 7, 7, 7} {
		if l[i].Step != step {
			t.Errorf("the event %d is of the step %d", i, l[i].Step)
		}
	}
	if string(l[1].Text) != "hi" || l[1].Src != spot(0x10) || l[3].Code != api.OK || l[3].Req != 1<<32+1 {
		t.Errorf("there came %+v", l)
	}
}

// P21.1: Boot.
func TestBoot(t *testing.T) {
	b := begin(t, config(2, 9, 20, 0x10, 0x90))
	b.not(boot(-1), boot(2), boot(api.MaxNodes), boot(1<<63-1), boot(-1<<63))
	b.must(boot(1))
	b.not(boot(1))
	if v := b.w.View(1); !v.Up || v.Inc != 1 || b.w.View(0).Up {
		t.Errorf("View(1) is %+v", v)
	}
	for n := range 3 {
		b.must(crash(1), boot(1))
		if v := b.w.View(1); v.Inc != int64(n+2) {
			t.Errorf("the beginning is of the number %d", v.Inc)
		}
	}
}

// P21.1: what Boot takes of the config is what a node is made of.
func TestBootByConfig(t *testing.T) {
	for half := 1; half <= 3; half++ {
		b := row(t, config(half, 128, 40, 0x10, 0x90, 0x30, 0xb0, 0x50, 0xd0))
		b.must(calm(64))
		for i := range 6 {
			own := 0
			for _, x := range b.w.View(i).Entries {
				if x.Na == -1 || x.Nb == -1 {
					own++
				}
			}
			if want := min(2*half, 5); own != want {
				t.Errorf("with Half %d the node %d has %d own paths, not %d", half, i, own, want)
			}
		}
	}
	b := row(t, config(3, 1, 40, 0x10, 0x90, 0x30))
	b.must(calm(8))
	for i := range 3 {
		if n := len(b.w.View(i).Entries); n > 1 {
			t.Errorf("with Paths 1 there are %d entries", n)
		}
	}
	if l := only(b.w.Events(), node.EvFull); len(l) == 0 {
		t.Error("no table was full")
	}
}

// P21.1: Crash. The links stay, and what is under way does.
func TestCrash(t *testing.T) {
	b := pair(t)
	b.not(crash(-1), crash(2), crash(6))
	b.must(calm(3), put(1, spot(0x91), "x"), tick(0), tick(1))
	flying, kept := len(b.w.Flying(0, 1)), len(b.w.View(1).Items)
	if flying == 0 || kept != 1 {
		t.Fatalf("%d are under way, %d items are kept", flying, kept)
	}
	b.must(crash(1))
	b.not(crash(1))
	v := b.w.View(1)
	if v.Up || v.ID != spot(0x90) || v.Inc != 0 || len(v.Items)+len(v.Entries) != 0 || v.Ends[0].Open {
		t.Errorf("View(1) is %+v", v)
	}
	if !b.w.Linked(0, 1) || len(b.w.Flying(0, 1)) != flying || len(b.w.Flying(1, 0)) == 0 {
		t.Error("the link fell")
	}
	b.not(tick(1), put(1, spot(0x91), "x"))
	// What comes where nobody runs is lost.
	b.must(take(0, 1, 0))
	if len(b.w.Flying(0, 1)) != flying-1 {
		t.Error("it is under way yet")
	}
	b.must(boot(1))
	if v := b.w.View(1); len(v.Items) != 1 || v.Inc != 2 {
		t.Errorf("View(1) is %+v", v)
	}
	b.must(calm(3))
}

// P21.1: a node hears of links to nodes that run, of no others.
func TestTickTellsWhoRuns(t *testing.T) {
	b := begin(t, config(1, 9, 20, 0x10, 0x90, 0xd0))
	up := func() (l []bool) {
		for _, e := range b.w.View(0).Ends {
			l = append(l, e.Up)
		}
		return l
	}
	b.must(boot(0), boot(2), tick(0))
	if slices.Contains(up(), true) {
		t.Error("an end is up whose link isn't")
	}
	b.must(link(0, 1), tick(0))
	if slices.Contains(up(), true) {
		t.Error("an end is up whose other node doesn't run")
	}
	b.must(link(2, 0), tick(0))
	if !slices.Equal(up(), []bool{false, false, true}) || len(b.w.Flying(0, 2)) != 1 {
		t.Errorf("the ends are %v", up())
	}
	b.must(boot(1), tick(0))
	if !slices.Equal(up(), []bool{false, true, true}) {
		t.Errorf("the ends are %v", up())
	}
	b.must(calm(2), crash(2))
	if !slices.Equal(up(), []bool{false, true, true}) {
		t.Error("it knew ahead of its tick")
	}
	b.must(cut(0, 1))
	if !slices.Equal(up(), []bool{false, true, true}) {
		t.Error("it knew ahead of its tick")
	}
	b.must(tick(0))
	if slices.Contains(up(), true) {
		t.Errorf("the ends are %v", up())
	}
	b.not(tick(-1), tick(2), tick(3), tick(6), tick(1<<63-1))
}

// P21.1: Link and Cut are both ways; what is under way is lost.
func TestLink(t *testing.T) {
	b := begin(t, config(1, 9, 20, 0x10, 0x90, 0xd0))
	for _, o := range []func(a, b int) world.Op{link, cut} {
		for _, l := range [][2]int{{0, 0}, {2, 2}, {-1, 0}, {0, -1}, {3, 0}, {0, 3}, {-1, -1}, {3, 3}, {6, 0}, {1<<63 - 1, 1}, {1, -1 << 63}} {
			b.not(o(l[0], l[1]))
		}
	}
	b.not(cut(0, 1), cut(2, 1))
	b.must(link(1, 0))
	if !b.w.Linked(0, 1) || !b.w.Linked(1, 0) || b.w.Linked(0, 2) || b.w.Linked(0, 0) {
		t.Error("other links are up")
	}
	b.not(link(0, 1), link(1, 0))
	b.must(link(1, 2), boot(0), boot(1), boot(2), tick(0), tick(1), tick(2))
	for _, l := range [][2]int{{0, 1}, {1, 0}, {1, 2}, {2, 1}} {
		if len(b.w.Flying(l[0], l[1])) != 1 {
			t.Fatal("nothing is under way")
		}
	}
	b.not(link(0, 1))
	b.must(cut(0, 1))
	if len(b.w.Flying(0, 1))+len(b.w.Flying(1, 0)) != 0 || len(b.w.Flying(1, 2)) != 1 || len(b.w.Flying(2, 1)) != 1 {
		t.Error("what is lost isn't what was under way there")
	}
	b.not(cut(1, 0))
	// What is sent over a link that isn't up is lost: 0 doesn't know yet that it fell.
	b.must(link(0, 1), calm(3), cut(1, 0), send(0, spot(0x90), "lost"))
	if l := b.since(b.w.Steps() - 1); len(l) != 1 || l[0].Kind != node.EvStep {
		t.Errorf("there came %v", l)
	}
	if len(b.w.Flying(0, 1)) != 0 {
		t.Error("a frame is under way without a link")
	}
}

// P21.1: Take, Lose and Twice, by each number.
func TestNumbers(t *testing.T) {
	for _, kind := range []int{world.Take, world.Lose, world.Twice} {
		for _, i := range []int{0, 1, 2, 3, 4, 5, -1, -2, -3, 1<<63 - 1, -1 << 63} {
			b := pair(t)
			b.must(calm(3), send(0, spot(0x90), "x"), send(0, spot(0x90), "y"), send(0, spot(0x90), "z"))
			was := b.w.Flying(0, 1)
			if len(was) != 3 {
				t.Fatal("other frames are under way")
			}
			at := int(uint64(i) % 3)
			want := append(slices.Clone(was), was[at])
			if kind != world.Twice {
				want = slices.Delete(slices.Clone(was), at, at+1)
			}
			b.must(world.Op{Kind: kind, A: 0, B: 1, I: i})
			if l := b.w.Flying(0, 1); !slices.EqualFunc(l, want, slices.Equal) {
				t.Errorf("the kind %d of %d leaves %x of %x", kind, i, l, was)
			}
			// Just what arrived is answered.
			if n := len(b.w.Flying(1, 0)); (n > 0) != (kind == world.Take) {
				t.Errorf("the kind %d is answered by %d", kind, n)
			}
		}
	}
}

// P21.1: where nothing is under way nothing can arrive, be lost, or come twice.
func TestNothingUnderWay(t *testing.T) {
	b := pair(t)
	for _, kind := range []int{world.Take, world.Lose, world.Twice} {
		b.not(world.Op{Kind: kind, A: 0, B: 1}, world.Op{Kind: kind, A: 1, B: 0, I: 5})
	}
	b.must(tick(0))
	for _, kind := range []int{world.Take, world.Lose, world.Twice} {
		for _, l := range [][2]int{{0, 0}, {1, 1}, {1, 0}, {-1, 0}, {0, -1}, {0, 2}, {2, 1}, {-1, -1}, {6, 1}, {0, 6}, {0, 1<<63 - 1}, {-1 << 63, 1}} {
			b.not(world.Op{Kind: kind, A: l[0], B: l[1]})
		}
	}
	b.must(take(0, 1, 0))
}

// P21.1: a pipe that is full takes no more; what is sent is lost.
func TestFull(t *testing.T) {
	b := pair(t)
	b.must(calm(3), send(0, spot(0x90), "x"))
	for range 255 {
		b.must(twice(0, 1, 0))
	}
	b.not(twice(0, 1, 0), twice(0, 1, 255))
	full := b.w.Flying(0, 1)
	if len(full) != 256 {
		t.Fatalf("%d are under way", len(full))
	}
	b.must(tick(0), send(0, spot(0x90), "y"))
	if l := b.w.Flying(0, 1); !slices.EqualFunc(l, full, slices.Equal) {
		t.Error("something was sent")
	}
	b.must(lose(0, 1, 7))
	b.must(send(0, spot(0x90), "z"))
	if l := b.w.Flying(0, 1); len(l) != 256 || slices.Equal(l[255], full[0]) {
		t.Error("nothing was sent")
	}
	b.not(twice(0, 1, 0))
	b.must(lose(0, 1, 0), twice(0, 1, 0))
	// As long as it is full, what is said again is lost too; then y and z come.
	for _, n := range []int{1, 3} {
		b.must(calm(1))
		if l := only(b.w.Events(), node.EvUp); len(l) != n {
			t.Errorf("%d texts were handed up, not %d", len(l), n)
		}
	}
}

// P21.1: Ask, as layer 20 has it.
func TestAsk(t *testing.T) {
	b := pair(t)
	b.must(calm(3))
	long := string(make([]byte, 65))
	b.not(
		ask(0, 0, spot(0x90), "x"), ask(0, 4, spot(0x90), "x"), ask(0, 5, spot(0x90), "x"),
		ask(0, -1, spot(0x90), "x"), ask(0, 1<<63-1, spot(0x90), "x"),
		ask(0, api.OpGet, spot(0x90), "x"), ask(0, api.OpGet, spot(0x90), long),
		ask(0, api.OpSend, spot(0x90), long), ask(0, api.OpPut, spot(0x90), long),
		ask(-1, api.OpSend, spot(0x90), "x"), ask(2, api.OpSend, spot(0x90), "x"), ask(6, api.OpGet, spot(0x90), ""),
	)
	at := b.w.Steps()
	b.must(send(0, spot(0x90), long[:64]), send(0, spot(0x10), ""), put(0, spot(0x12), "v"), get(0, spot(0x12)), get(0, spot(0x13)))
	want := []struct {
		step, kind int
		code       api.Errno
		req        int64
	}{
		{1, node.EvStep, 0, 1},
		{2, node.EvUp, 0, 2}, {2, node.EvAnswer, api.OK, 2},
		{3, node.EvKept, 0, 3}, {3, node.EvAnswer, api.OK, 3},
		{4, node.EvAnswer, api.OK, 4},
		{5, node.EvAnswer, api.ErrNone, 5},
	}
	l := b.since(at)
	if len(l) != len(want) {
		t.Fatalf("there came %v", kinds(l))
	}
	for i, x := range want {
		if e := l[i]; e.Step != at+x.step || e.Node != 0 || e.Kind != x.kind || e.Code != x.code || e.Req != 1<<32+x.req {
			t.Errorf("the event %d is %+v", i, e)
		}
	}
	if x := l[5].Item; string(x.Value) != "v" || x.Ver.N != 1 {
		t.Errorf("what was put is %+v", x)
	}
	// What an op has beside what it says of its kind is passed over.
	b.must(world.Op{Kind: world.Ask, A: 0, B: -7, I: api.OpGet, ID: spot(0x12), Text: []byte{}})
	b.must(calm(1))
}

// P21.1: what an op has beside what its kind asks for says nothing.
func TestBesides(t *testing.T) {
	b := begin(t, config(1, 9, 20, 0x10, 0x90))
	also := func(o world.Op) world.Op {
		o.ID, o.Text = spot(3), []byte("besides")
		if o.Kind == world.Boot || o.Kind == world.Crash || o.Kind == world.Tick {
			o.B, o.I = -5, 77
		}
		if o.Kind == world.Calm {
			o.A, o.B = -5, 77
		}
		if o.Kind == world.Link || o.Kind == world.Cut {
			o.I = -1
		}
		if o.Kind == world.Power {
			o.B = 77
		}
		return o
	}
	for _, o := range []world.Op{boot(0), boot(1), link(0, 1), calm(2), tick(0), twice(0, 1, 0), take(0, 1, 0), lose(0, 1, 0), power(0, 5), cut(0, 1), crash(1)} {
		b.must(also(o))
	}
}

// P21.1: a Kind that is none.
func TestKinds(t *testing.T) {
	b := pair(t)
	b.must(calm(1), tick(0))
	for _, kind := range []int{0, 12, 13, -1, -11, 64, 256 + 1, 1<<32 + 1, 1<<63 - 1, -1 << 63} {
		b.not(world.Op{Kind: kind}, world.Op{Kind: kind, A: 0, B: 1, I: 1, ID: spot(0x90), Text: []byte("x")})
	}
	b.must(take(0, 1, 0))
}

// P21.1: Calm, by how many rounds.
func TestCalm(t *testing.T) {
	for _, n := range []int{0, -1, 65, 66, 1<<63 - 1, -1 << 63} {
		b := pair(t)
		b.must(tick(0))
		b.not(calm(n))
	}
	for _, n := range []int{1, 2, 63, 64} {
		b := pair(t)
		b.must(calm(n))
		one := pair(t)
		for range n {
			one.must(calm(1))
		}
		for i := range 2 {
			if !sameView(b.w.View(i), one.w.View(i)) {
				t.Errorf("%d rounds are not as many of one", n)
			}
		}
	}
	// Where nobody runs, too: what is under way is lost.
	b := pair(t)
	b.must(tick(0), tick(1), crash(0), crash(1), calm(1))
	if len(b.w.Flying(0, 1))+len(b.w.Flying(1, 0)) != 0 || len(b.w.Events()) != 0 {
		t.Error("something is under way")
	}
}

// P21.1: a round is: they tick by their places; then what is under way arrives by pairs, as much as there is when it is a pair's turn.
func TestRound(t *testing.T) {
	b := begin(t, config(1, 9, 20, 0x10, 0x90, 0x50))
	b.must(boot(0), boot(1), boot(2), link(0, 1), link(1, 2))
	b.must(calm(4), send(0, spot(0x50), "x"), send(2, spot(0x10), "y"))
	by := begin(t, config(1, 9, 20, 0x10, 0x90, 0x50))
	by.must(boot(0), boot(1), boot(2), link(0, 1), link(1, 2))
	by.must(calm(4), send(0, spot(0x50), "x"), send(2, spot(0x10), "y"))
	b.must(calm(1))
	by.must(tick(0), tick(1), tick(2))
	underWay := func() int {
		n := 0
		for i := range 3 {
			for j := range 3 {
				n += len(by.w.Flying(i, j))
			}
		}
		return n
	}
	for underWay() > 0 {
		for _, l := range [][2]int{{0, 1}, {0, 2}, {1, 0}, {1, 2}, {2, 0}, {2, 1}} {
			for range by.w.Flying(l[0], l[1]) {
				by.must(take(l[0], l[1], 0))
			}
		}
	}
	for i := range 3 {
		if !sameView(b.w.View(i), by.w.View(i)) {
			t.Errorf("View(%d) is %+v, by hand %+v", i, b.w.View(i), by.w.View(i))
		}
	}
	l, m := b.w.Events(), by.w.Events()
	if len(l) != len(m) {
		t.Fatalf("%d events, by hand %d", len(l), len(m))
	}
	for i := range l {
		l[i].Step, m[i].Step = 0, 0
		if !sameEvent(l[i], m[i]) {
			t.Errorf("the event %d is %+v, by hand %+v", i, l[i], m[i])
		}
	}
	if n := len(only(l, node.EvUp)); n != 2 {
		t.Errorf("%d texts were handed up", n)
	}
}

// P21.1: Power; and what a Boot writes stays, wherever power fails in it.
func TestPowerOfBeginning(t *testing.T) {
	first := begin(t, config(1, 9, 20, 0x10))
	first.must(boot(0))
	writes := 0
	for ; ; writes++ {
		b := begin(t, config(1, 9, 20, 0x10))
		b.not(power(-1, writes), power(1, writes), power(6, -1))
		b.must(power(0, writes))
		was := b.w.Disk(0)
		if b.do(boot(0)) {
			break
		}
		if v := b.w.View(0); v.Up || v.Inc != 0 || len(b.w.Events()) != 0 {
			t.Errorf("with power for %d writes it is %+v", writes, v)
		}
		if stayed := b.w.Disk(0); slices.Equal(was, stayed) != (writes == 0) {
			t.Errorf("with power for %d writes its disk is %x", writes, stayed)
		}
		b.not(boot(0), crash(0), tick(0), get(0, spot(1)))
		b.must(power(0, -9), boot(0))
		if v := b.w.View(0); !v.Up || v.Inc < 1 {
			t.Errorf("with power again it is %+v", v)
		}
	}
	if writes == 0 {
		t.Error("a beginning writes nothing")
	}
}

// P21.1: a disk without room for one more beginning, and bytes that stay.
func TestNoRoom(t *testing.T) {
	b := begin(t, config(1, 9, 3, 0x10))
	n := 0
	for b.do(boot(0)) {
		n++
		b.must(crash(0))
	}
	if n != 1 {
		t.Errorf("three sectors hold %d beginnings", n)
	}
	was := b.w.Disk(0)
	b.not(boot(0))
	if !slices.Equal(was, b.w.Disk(0)) {
		t.Error("the disk changed")
	}
}

// P21.1: power that fails in a request: it doesn't happen, the node runs no more, and what it wrote stays.
func TestPowerOfRequest(t *testing.T) {
	for writes := 0; ; writes++ {
		b := pair(t)
		b.must(calm(3), put(0, spot(0x11), "ahead"), power(0, writes))
		was, events, flying := b.w.Disk(0), len(b.w.Events()), len(b.w.Flying(0, 1))
		if b.do(put(0, spot(0x11), string(make([]byte, 64)))) {
			if writes < 2 {
				t.Errorf("%d writes are enough", writes)
			}
			if !b.w.View(0).Up {
				t.Error("it happened, and it runs no more")
			}
			return
		}
		v := b.w.View(0)
		if v.Up || v.Inc != 0 || len(v.Items)+len(v.Entries) != 0 {
			t.Errorf("with power for %d writes it is %+v", writes, v)
		}
		if slices.Equal(was, b.w.Disk(0)) != (writes == 0) {
			t.Errorf("with power for %d writes its disk is %x", writes, b.w.Disk(0))
		}
		if len(b.w.Events()) != events || len(b.w.Flying(0, 1)) != flying || !b.w.Linked(0, 1) {
			t.Error("something was told")
		}
		b.not(crash(0), tick(0), boot(0))
		b.must(calm(1), power(0, -1), boot(0))
		if x := b.w.View(0).Items; len(x) != 1 || string(x[0].Value) != "ahead" {
			t.Errorf("it keeps %+v", x)
		}
	}
}

// P21.1: power that fails within a round, or as a frame arrives, of which each happens.
func TestPowerWithinRound(t *testing.T) {
	for _, how := range []world.Op{calm(1), take(0, 1, 0)} {
		failed := 0
		for writes := 0; ; writes++ {
			b := pair(t)
			b.must(calm(3), put(0, spot(0x91), "x"), power(1, writes))
			was, at := b.w.Disk(1), b.w.Steps()
			b.must(how)
			if b.w.View(1).Up {
				if x := b.w.View(1).Items; len(x) != 1 {
					t.Errorf("it runs, and keeps %v", x)
				}
				break
			}
			failed++
			if slices.Equal(was, b.w.Disk(1)) != (writes == 0) {
				t.Errorf("with power for %d writes its disk is %x", writes, b.w.Disk(1))
			}
			if l := b.since(at); len(l) != 0 || !b.w.View(0).Up {
				t.Errorf("there came %v", kinds(l))
			}
			if how.Kind == world.Calm && len(b.w.Flying(0, 1)) != 0 {
				t.Error("something is under way")
			}
			b.must(power(1, -1), boot(1), calm(3))
		}
		if failed < 2 {
			t.Errorf("power failed %d times", failed)
		}
	}
}

// P21.1: of those that tick ahead of one that falls, and behind it, each tells what it knows then; here power fails at 1 as an item is handed on to it.
func TestPowerOfCopy(t *testing.T) {
	failed := 0
	for writes := range 4 {
		b := row(t, config(1, 128, 30, 0x10, 0x50, 0x90))
		b.must(power(1, writes), put(0, spot(0x12), "x"))
		for range 4 {
			b.must(calm(1))
		}
		if !b.w.View(1).Up {
			failed++
		}
		b.must(power(1, -1))
		if !b.w.View(1).Up {
			b.must(boot(1))
		}
		b.must(calm(20))
		for i := range 3 {
			if x := b.w.View(i).Items; len(x) != 1 {
				t.Errorf("with power for %d writes %d keeps %v", writes, i, x)
			}
		}
	}
	if failed == 0 {
		t.Error("power never failed")
	}
}

// P21.1 (R1): a nil world, at every call.
func TestNil(t *testing.T) {
	var w *world.World
	for kind := -1; kind <= 12; kind++ {
		if w.Do(world.Op{Kind: kind}) || w.Do(world.Op{Kind: kind, B: 1, I: 1, Text: []byte("x")}) {
			t.Errorf("the kind %d happens", kind)
		}
	}
	for _, i := range []int{-1, 0, 1, 6} {
		if !sameView(w.View(i), world.View{}) || len(w.Disk(i)) != 0 || len(w.Flying(i, 1)) != 0 || w.Linked(i, 1) {
			t.Errorf("a nil world has a place %d", i)
		}
	}
	if len(w.Events()) != 0 || w.Steps() != 0 {
		t.Error("something happened in a nil world")
	}
}

// P21.1: what is under way is what layer 4 reads.
func TestFramesUnderWay(t *testing.T) {
	b := pair(t)
	b.must(tick(0))
	l := b.w.Flying(0, 1)
	if len(l) != 1 {
		t.Fatalf("%x is under way", l)
	}
	f, e := frame.Decode(l[0])
	if e != api.OK || f.Kind != api.Hello || f.A != spot(0x10) || f.From != (api.Num{Inc: 1, N: 1}) {
		t.Errorf("%+v is under way", f)
	}
}
