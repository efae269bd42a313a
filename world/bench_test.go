package world_test

import (
	"bytes"
	"reflect"
	"slices"
	"testing"

	"annulet/api"
	"annulet/world"
)

// spot is an identity; the spots 0 to 255 stand in order, all around the ring.
func spot(n byte) api.ID { return api.ID{n} }

func boot(a int) world.Op          { return world.Op{Kind: world.Boot, A: a} }
func crash(a int) world.Op         { return world.Op{Kind: world.Crash, A: a} }
func link(a, b int) world.Op       { return world.Op{Kind: world.Link, A: a, B: b} }
func cut(a, b int) world.Op        { return world.Op{Kind: world.Cut, A: a, B: b} }
func tick(a int) world.Op          { return world.Op{Kind: world.Tick, A: a} }
func take(a, b, i int) world.Op    { return world.Op{Kind: world.Take, A: a, B: b, I: i} }
func lose(a, b, i int) world.Op    { return world.Op{Kind: world.Lose, A: a, B: b, I: i} }
func twice(a, b, i int) world.Op   { return world.Op{Kind: world.Twice, A: a, B: b, I: i} }
func power(a, writes int) world.Op { return world.Op{Kind: world.Power, A: a, I: writes} }
func calm(rounds int) world.Op     { return world.Op{Kind: world.Calm, I: rounds} }

func send(a int, to api.ID, text string) world.Op  { return ask(a, api.OpSend, to, text) }
func put(a int, key api.ID, value string) world.Op { return ask(a, api.OpPut, key, value) }
func get(a int, key api.ID) world.Op               { return ask(a, api.OpGet, key, "") }
func ask(a, op int, id api.ID, text string) world.Op {
	return world.Op{Kind: world.Ask, A: a, I: op, ID: id, Text: []byte(text)}
}

// bench is a world beside its second telling.
type bench struct {
	t    *testing.T
	w    *world.World
	x    *teller
	seen int // events that were held against each other already
}

// config is a world's, of nodes at these spots.
func config(half, paths, sectors int, spots ...byte) world.Config {
	c := world.Config{Half: half, Paths: paths, Disk: sectors}
	for _, at := range spots {
		c.IDs = append(c.IDs, spot(at))
	}
	return c
}

// begin begins a world, and its second telling.
func begin(t *testing.T, c world.Config) *bench {
	t.Helper()
	b := &bench{t: t, x: newTeller(c)}
	ids := roomy(c.IDs, spot(0xee))
	was := c
	was.IDs = slices.Clone(c.IDs)
	c.IDs = ids
	w, e := world.New(c)
	if w == nil || e != api.OK {
		t.Fatalf("New(%v): %v, %v", c, w, e)
	}
	stays(t, ids, was.IDs, spot(0xee))
	b.w = w
	return b
}

// pair is a world of two nodes that run and are linked.
func pair(t *testing.T) *bench {
	t.Helper()
	b := begin(t, config(1, 9, 20, 0x10, 0x90))
	b.must(boot(0), boot(1), link(0, 1))
	return b
}

// row is a world of nodes in a row, that run, and have been calm for long.
func row(t *testing.T, c world.Config) *bench {
	t.Helper()
	b := begin(t, c)
	for i := range c.IDs {
		b.must(boot(i))
	}
	for i := 1; i < len(c.IDs); i++ {
		b.must(link(i-1, i))
	}
	b.must(calm(2 * len(c.IDs)))
	return b
}

// play does an op: did it happen?
func (b *bench) play(o world.Op) bool {
	b.t.Helper()
	was := slices.Clone(o.Text)
	want := b.x.happens(o)
	o.Text = roomy(o.Text, 0xee)
	if did := b.w.Do(o); did != want {
		b.t.Fatalf("Do(%+v) tells %v", o, did)
	}
	stays(b.t, o.Text, was, 0xee)
	return want
}

// do does ops, and looks at all that is shown behind each: did they all happen?
func (b *bench) do(ops ...world.Op) bool {
	b.t.Helper()
	all := true
	for _, o := range ops {
		all = b.play(o) && all
		b.same()
	}
	return all
}

// must does ops that are to happen.
func (b *bench) must(ops ...world.Op) {
	b.t.Helper()
	for _, o := range ops {
		if !b.do(o) {
			b.t.Fatalf("%+v doesn't happen", o)
		}
	}
}

// not does ops that are not to happen, and by which nothing is to change but the count of ops.
func (b *bench) not(ops ...world.Op) {
	b.t.Helper()
	for _, o := range ops {
		steps, was := b.w.Steps(), b.shown()
		if b.do(o) {
			b.t.Fatalf("%+v happens", o)
		}
		if !reflect.DeepEqual(was, b.shown()) || b.w.Steps() != steps+1 {
			b.t.Fatalf("%+v doesn't happen, but something changed", o)
		}
	}
}

// shown is all that a world shows, but its count of ops.
type shown struct {
	views  []world.View
	flying [][][]byte
	links  []bool
	disks  [][]byte
	events []world.Event
}

// places are all of a world, and some that are none.
func (b *bench) places() []int {
	l := []int{-1 << 63, -1}
	for i := range len(b.x.c.IDs) + 1 {
		l = append(l, i)
	}
	return append(l, api.MaxNodes, 1<<63-1)
}

func (b *bench) shown() shown {
	s := shown{events: b.w.Events()}
	for _, i := range b.places() {
		s.views = append(s.views, b.w.View(i))
		s.disks = append(s.disks, b.w.Disk(i))
		for _, j := range b.places() {
			s.flying = append(s.flying, b.w.Flying(i, j))
			s.links = append(s.links, b.w.Linked(i, j))
		}
	}
	return s
}

// same holds all that is shown against the second telling; then it writes over all that was told.
func (b *bench) same() {
	b.t.Helper()
	var m memory
	if n := b.w.Steps(); n != b.x.steps {
		b.t.Fatalf("Steps() is %d, not %d", n, b.x.steps)
	}
	for _, i := range b.places() {
		v := b.w.View(i)
		if want := b.x.view(i); !sameView(v, want) {
			b.t.Fatalf("step %d: View(%d) is %+v, not %+v", b.x.steps, i, v, want)
		}
		m.view(v)
		d := b.w.Disk(i)
		if !bytes.Equal(d, b.x.bytesOf(i)) {
			b.t.Fatalf("step %d: Disk(%d) is %x", b.x.steps, i, d)
		}
		m.bytes(d)
		for _, j := range b.places() {
			b.samePair(&m, i, j)
		}
	}
	b.sameEvents(&m)
	m.over(b.t)
}

// samePair holds what is between two places against the second telling.
func (b *bench) samePair(m *memory, i, j int) {
	b.t.Helper()
	f := b.w.Flying(i, j)
	if want := b.x.flying(i, j); !slices.EqualFunc(f, want, bytes.Equal) {
		b.t.Fatalf("step %d: Flying(%d, %d) is %x, not %x", b.x.steps, i, j, f, want)
	}
	m.lists(f)
	if up := b.w.Linked(i, j); up != b.x.links[[2]int{i, j}] {
		b.t.Fatalf("step %d: Linked(%d, %d) is %v", b.x.steps, i, j, up)
	}
}

// sameEvents holds the events that came since against the second telling's.
func (b *bench) sameEvents(m *memory) {
	b.t.Helper()
	l := b.w.Events()
	if len(l) != len(b.x.events) {
		b.t.Fatalf("step %d: %d events, not %d", b.x.steps, len(l), len(b.x.events))
	}
	for i := b.seen; i < len(l); i++ {
		if want := b.x.events[i]; !sameEvent(l[i], want) {
			b.t.Fatalf("step %d: the event %d is %+v, not %+v", b.x.steps, i, l[i], want)
		}
	}
	b.seen = len(l)
	m.events(l)
}

// whole looks at all events once more, whatever was looked at already.
func (b *bench) whole() {
	b.t.Helper()
	b.seen = 0
	b.same()
}

// since are the events of the steps behind one.
func (b *bench) since(step int) []world.Event {
	return slices.DeleteFunc(b.w.Events(), func(e world.Event) bool { return e.Step <= step })
}

// someOrNone makes an empty list nil, as they mean the same.
func someOrNone[T any](l []T) []T {
	if len(l) == 0 {
		return nil
	}
	return l
}

func plainItem(x api.Item) api.Item {
	x.Value = someOrNone(x.Value)
	return x
}

func plainEvent(e world.Event) world.Event {
	e.Text, e.Item = someOrNone(e.Text), plainItem(e.Item)
	return e
}

func plainView(v world.View) world.View {
	v.Entries, v.Items, v.Ends = someOrNone(v.Entries), someOrNone(slices.Clone(v.Items)), someOrNone(slices.Clone(v.Ends))
	for i := range v.Items {
		v.Items[i] = plainItem(v.Items[i])
	}
	for i, e := range v.Ends {
		v.Ends[i].Out = someOrNone(slices.Clone(e.Out))
		for j, text := range e.Out {
			v.Ends[i].Out[j] = someOrNone(text)
		}
	}
	return v
}

func sameView(a, b world.View) bool { return reflect.DeepEqual(plainView(a), plainView(b)) }

func sameEvent(a, b world.Event) bool { return reflect.DeepEqual(plainEvent(a), plainEvent(b)) }

// memory is all memory that was told.
type memory struct {
	texts  [][]byte
	others []func()
}

func (m *memory) bytes(l []byte) { m.texts = append(m.texts, l[:cap(l)]) }

// rest notes a list that isn't of bytes.
func rest[T any](m *memory, l []T) {
	m.others = append(m.others, func() { clear(l[:cap(l)]) })
}

func (m *memory) lists(l [][]byte) {
	for _, x := range l {
		m.bytes(x)
	}
	rest(m, l)
}

func (m *memory) events(l []world.Event) {
	for _, e := range l {
		m.bytes(e.Text)
		m.bytes(e.Item.Value)
	}
	rest(m, l)
}

func (m *memory) view(v world.View) {
	rest(m, v.Entries)
	for _, x := range v.Items {
		m.bytes(x.Value)
	}
	rest(m, v.Items)
	for _, e := range v.Ends {
		m.lists(e.Out)
	}
	rest(m, v.Ends)
}

// over writes over all of it, spare room too; no two lists of bytes may share any.
func (m *memory) over(t *testing.T) {
	t.Helper()
	for i, l := range m.texts {
		for j := range l {
			l[j] = byte(i)
		}
	}
	for i, l := range m.texts {
		if slices.ContainsFunc(l, func(x byte) bool { return x != byte(i) }) {
			t.Fatal("two lists that were told share memory")
		}
	}
	for _, f := range m.others {
		f()
	}
}

// roomy is a list in memory of its own, with spare room that has something in it.
func roomy[T any](l []T, spare T) []T {
	if l == nil {
		return nil
	}
	return append(slices.Clone(l), spare, spare, spare)[:len(l)]
}

// stays sees that a list that was handed in is as it was, spare room too; then it is written over, so that whoever kept it is found out.
func stays[T comparable](t *testing.T, l, was []T, spare T) {
	t.Helper()
	if !slices.Equal(l, was) {
		t.Fatalf("%v was handed in, and is %v", was, l)
	}
	room := l[len(l):cap(l)]
	for i := range min(3, len(room)) {
		if room[i] != spare {
			t.Fatal("the spare room of what was handed in is changed")
		}
	}
	clear(l)
}

// kinds are those of events, each with its node.
func kinds(l []world.Event) [][2]int {
	var k [][2]int
	for _, e := range l {
		k = append(k, [2]int{e.Kind, e.Node})
	}
	return k
}

// only are the events of some kinds.
func only(l []world.Event, which ...int) []world.Event {
	return slices.DeleteFunc(l, func(e world.Event) bool { return !slices.Contains(which, e.Kind) })
}
