package node_test

import (
	"fmt"
	"reflect"
	"slices"
	"testing"

	"annulet/api"
	"annulet/disk"
	"annulet/frame"
	"annulet/hello"
	"annulet/node"
)

// spot is an identity; the spots 0 to 255 stand in order, all around the ring.
func spot(n byte) api.ID { return api.ID{n} }

// alike tells whether two values say the same; a nil list and an empty one do.
func alike(a, b any) bool { return alikeValues(reflect.ValueOf(a), reflect.ValueOf(b)) }

func alikeValues(a, b reflect.Value) bool {
	if a.IsValid() != b.IsValid() {
		return false
	}
	if !a.IsValid() {
		return true
	}
	if a.Type() != b.Type() {
		return false
	}
	switch a.Kind() {
	case reflect.Slice:
		if a.Len() != b.Len() {
			return false
		}
		if a.Type().Elem().Kind() == reflect.Uint8 {
			return slices.Equal(a.Bytes(), b.Bytes())
		}
		for i := range a.Len() {
			if !alikeValues(a.Index(i), b.Index(i)) {
				return false
			}
		}
		return true
	case reflect.Struct:
		for i := range a.NumField() {
			if !alikeValues(a.Field(i), b.Field(i)) {
				return false
			}
		}
		return true
	case reflect.Interface:
		return alikeValues(a.Elem(), b.Elem())
	}
	return a.Interface() == b.Interface()
}

// listsIn are all lists that a value has, each with its spare room.
func listsIn(v reflect.Value) []reflect.Value {
	var l []reflect.Value
	switch v.Kind() {
	case reflect.Slice:
		if v.Cap() > 0 {
			l = append(l, v.Slice(0, v.Cap()))
		}
		for i := range v.Len() {
			l = append(l, listsIn(v.Index(i))...)
		}
	case reflect.Struct:
		for i := range v.NumField() {
			l = append(l, listsIn(v.Field(i))...)
		}
	}
	return l
}

// spoil writes over all memory that answers have, spare room too; no two lists of them may share any.
func spoil(t *testing.T, answers ...any) {
	t.Helper()
	var lists []reflect.Value
	for _, x := range answers {
		lists = append(lists, listsIn(reflect.ValueOf(x))...)
	}
	slices.SortFunc(lists, func(a, b reflect.Value) int { return int(int64(a.Pointer()) - int64(b.Pointer())) })
	for i := 1; i < len(lists); i++ {
		ahead := lists[i-1]
		if ahead.Pointer()+uintptr(ahead.Len())*ahead.Type().Elem().Size() > lists[i].Pointer() {
			t.Fatal("two lists of an answer share memory")
		}
	}
	for _, l := range lists {
		for i := range l.Len() {
			if x := l.Index(i); x.Kind() == reflect.Uint8 {
				x.SetUint(^x.Uint() & 255)
			} else {
				x.SetZero()
			}
		}
	}
}

// roomy is a list in memory of its own, with spare room that has something in it.
func roomy[T any](l []T, spare T) []T {
	if l == nil {
		return nil
	}
	b := append(slices.Clone(l), spare, spare, spare)
	return b[:len(l):len(b)]
}

// stays sees that a list that was handed in is as it was, spare room too; then it is written over, so that whoever kept it is found out.
func stays[T comparable](t *testing.T, l, was []T, spare T) {
	t.Helper()
	if !slices.Equal(l, was) {
		t.Fatalf("%v was handed in, and is %v", was, l)
	}
	for _, x := range l[len(l):cap(l)] {
		if x != spare {
			t.Fatal("the spare room of what was handed in is changed")
		}
	}
	clear(l)
}

func cloneSends(l []node.Send) []node.Send {
	l = slices.Clone(l)
	for i := range l {
		l[i].B = slices.Clone(l[i].B)
	}
	return l
}

func cloneEvents(l []node.Event) []node.Event {
	l = slices.Clone(l)
	for i := range l {
		l[i].Text, l[i].Item.Value = slices.Clone(l[i].Text), slices.Clone(l[i].Item.Value)
	}
	return l
}

// msg is what came at a side, within its session.
type msg struct {
	To   int
	Said frame.Body
}

// side is the other end of one of the node's links, played by the test.
type side struct {
	end  *hello.End
	id   api.ID
	mute bool // what it answers is lost
}

// bench is a node, the same told a second time, and sides.
type bench struct {
	t     *testing.T
	c     node.Config
	d, md *disk.Disk
	n     *node.Node
	m     *teller
	up    []bool
	sides [api.MaxNodes]*side
	begun int64 // sessions that sides have begun
	held  bool  // events aren't asked for behind each call
	calls int
	came  []msg
	ev    []node.Event
	last  answer
}

// answer is what a call answered, and a copy of it.
type answer struct {
	sent, wasSent []node.Send
	ev, wasEv     []node.Event
}

// begin begins a node on a new disk.
func begin(t *testing.T, c node.Config, sectors int) *bench {
	t.Helper()
	b := &bench{t: t, c: c, d: disk.New(sectors), md: disk.New(sectors)}
	if e := b.again(); e != api.OK {
		t.Fatalf("New(%v): %v", c, e)
	}
	return b
}

// again begins the node anew on its disk; nobody is linked with it.
func (b *bench) again() api.Errno {
	b.t.Helper()
	n, e := node.New(b.c, b.d)
	m, want := newTeller(b.c, b.md)
	if e != want || (n == nil) != (e != api.OK) {
		b.t.Fatalf("New(%v): %v, want %v", b.c, e, want)
	}
	b.n, b.m, b.up, b.sides, b.ev = n, m, make([]bool, api.MaxNodes), [api.MaxNodes]*side{}, nil
	b.look()
	return e
}

// power is for so many writes from now on.
func (b *bench) power(n int) {
	b.d.Power(n)
	b.md.Power(n)
}

// look holds how the node stands against its second telling.
func (b *bench) look() {
	b.t.Helper()
	if b.n == nil {
		return
	}
	if got, want := b.n.Down(), b.m.v.Down(); got != want {
		b.t.Fatalf("Down: %v, want %v", got, want)
	}
	if got, want := b.n.Inc(), b.m.v.Inc(); got != want {
		b.t.Fatalf("Inc: %d, want %d", got, want)
	}
	b.same("Entries", b.n.Entries(), b.m.t.All())
	for i := -1; i <= api.MaxNodes; i++ {
		b.same("End", b.n.End(i), b.m.end(i))
	}
	if b.d.Done() != b.md.Done() {
		b.t.Fatalf("%d writes, want %d", b.d.Done(), b.md.Done())
	}
	if b.calls++; b.calls%16 == 0 || b.m.v.Down() {
		b.same("Items", b.n.Items(), b.m.v.All())
		b.same("the disk", b.d.Bytes(), b.md.Bytes())
	}
}

// same holds an answer against what it should be, then writes over it.
func (b *bench) same(what string, got, want any) {
	b.t.Helper()
	if !alike(got, want) {
		b.t.Fatalf("%s:\n%+v, want\n%+v", what, got, want)
	}
	spoil(b.t, got)
}

// behind looks at all that can be told behind a call that sent this.
func (b *bench) behind(call string, got, want []node.Send) []node.Send {
	b.t.Helper()
	if !alike(got, want) {
		b.t.Fatalf("%s sends\n%s, want\n%s", call, shown(got), shown(want))
	}
	sent := cloneSends(got)
	var ev []node.Event
	if !b.held {
		ev = b.happened()
	}
	b.keeps(answer{got, sent, ev, cloneEvents(ev)})
	b.look()
	return cloneSends(sent)
}

// keeps sees that what the call ahead answered is as it was, behind another call; then all of it is written over. Of each other call what it answered is written over at once.
func (b *bench) keeps(now answer) {
	b.t.Helper()
	if !alike(b.last.sent, b.last.wasSent) || !alike(b.last.ev, b.last.wasEv) {
		b.t.Fatal("what a call answered is changed by the next one")
	}
	spoil(b.t, b.last.sent, b.last.ev)
	if b.last = now; b.calls%2 == 0 {
		spoil(b.t, now.sent, now.ev)
		b.last = answer{}
	}
}

// happened holds the events that are told now against the second telling.
func (b *bench) happened() []node.Event {
	b.t.Helper()
	ev, want := b.n.Events(), b.m.events()
	if !alike(ev, want) {
		b.t.Fatalf("events:\n%+v, want\n%+v", ev, want)
	}
	b.ev = append(b.ev, cloneEvents(ev)...)
	return ev
}

// shown is what sends say, frames within sessions too.
func shown(l []node.Send) string {
	s := ""
	for _, x := range l {
		s += fmt.Sprintf("to %d: %s\n", x.N, shownBytes(x.B))
	}
	return s
}

func shownBytes(b []byte) string {
	f, e := frame.Decode(b)
	if e != api.OK {
		return fmt.Sprintf("% x", b)
	}
	said, _ := frame.Of(f)
	if d, ok := said.(frame.Data); ok {
		return fmt.Sprintf("Data %d: %s", d.N, shownBytes(d.Text))
	}
	return fmt.Sprintf("%T%+v", said, said)
}

func (b *bench) tick(up []bool) []node.Send {
	b.t.Helper()
	handed := roomy(up, true)
	got := b.n.Tick(handed)
	stays(b.t, handed, up, true)
	return b.behind(fmt.Sprintf("Tick(%v)", up), got, b.m.tick(up))
}

func (b *bench) hear(from int, x []byte) []node.Send {
	b.t.Helper()
	handed := roomy(x, 0x5a)
	got := b.n.Hear(from, handed)
	stays(b.t, handed, x, 0x5a)
	return b.behind(fmt.Sprintf("Hear(%d, %s)", from, shownBytes(x)), got, b.m.hear(from, x))
}

func (b *bench) ask(op int, dst api.ID, text []byte) (int64, []node.Send, api.Errno) {
	b.t.Helper()
	handed := roomy(text, 0x5a)
	req, got, e := b.n.Ask(op, dst, handed)
	stays(b.t, handed, text, 0x5a)
	wantReq, want, wantE := b.m.request(op, dst, text)
	if req != wantReq || e != wantE {
		b.t.Fatalf("Ask(%d, %x, %q): %d, %v, want %d, %v", op, dst, text, req, e, wantReq, wantE)
	}
	return req, b.behind(fmt.Sprintf("Ask(%d, %x, %q)", op, dst, text), got, want), e
}

// reach lets what the node sent come to the sides, and what they answer come back, till nothing is under way.
func (b *bench) reach(l []node.Send) {
	b.t.Helper()
	for len(l) > 0 {
		x := l[0]
		l = l[1:]
		s := b.sides[x.N]
		f, e := frame.Decode(x.B)
		if e != api.OK {
			b.t.Fatalf("the node sends bytes that are no frame: % x", x.B)
		}
		if s == nil {
			continue
		}
		told := s.end.Hear(f, api.Num{Inc: 1, N: b.begun + 1})
		b.begun++
		if told.Came {
			b.came = append(b.came, msg{x.N, bodyOf(b.t, told.Text)})
		}
		if !s.mute {
			l = append(l, b.hearAll(x.N, told.Out)...)
		}
	}
}

// hearAll hears all that a side says.
func (b *bench) hearAll(from int, l []api.Frame) []node.Send {
	b.t.Helper()
	var sent []node.Send
	for _, f := range l {
		sent = append(sent, b.hear(from, encoded(f))...)
	}
	return sent
}

func bodyOf(t *testing.T, x []byte) frame.Body {
	t.Helper()
	f, e := frame.Decode(x)
	if e != api.OK {
		t.Fatalf("no frame: % x", x)
	}
	said, _ := frame.Of(f)
	return said
}

// join links a side with the node, and lets both speak till their session is open.
func (b *bench) join(i int, id api.ID) {
	b.t.Helper()
	b.sides[i] = &side{end: hello.New(id), id: id}
	b.up[i] = true
	b.begun++
	greeting := b.sides[i].end.Rise(api.Num{Inc: 1, N: b.begun})
	b.reach(b.tick(b.up))
	b.reach(b.hearAll(i, greeting))
	if !b.n.End(i).Open {
		b.t.Fatalf("no session with %d", i)
	}
	b.forget()
}

// leave cuts a side's link.
func (b *bench) leave(i int) {
	b.sides[i], b.up[i] = nil, false
}

// forget forgets what came and happened.
func (b *bench) forget() { b.came, b.ev = nil, nil }

// say lets a side say something within its session; what came at the sides of it, and what happened.
func (b *bench) say(i int, said frame.Body) ([]msg, []node.Event) {
	b.t.Helper()
	b.forget()
	b.reach(b.hear(i, b.within(i, said)))
	return b.came, b.ev
}

// within is what a side says within its session, as bytes on the link.
func (b *bench) within(i int, said frame.Body) []byte {
	b.t.Helper()
	f, e := b.sides[i].end.Send(encoded(frame.Plain(said)))
	if e != api.OK {
		b.t.Fatalf("the side %d sends: %v", i, e)
	}
	return encoded(f)
}

// round is a tick, and all that comes of it.
func (b *bench) round() ([]msg, []node.Event) {
	b.t.Helper()
	b.forget()
	b.reach(b.tick(b.up))
	return b.came, b.ev
}

// request is an Ask, and all that comes of it.
func (b *bench) request(op int, dst api.ID, text []byte) (int64, []msg, []node.Event) {
	b.t.Helper()
	b.forget()
	req, sent, e := b.ask(op, dst, text)
	if e != api.OK {
		b.t.Fatalf("Ask: %v", e)
	}
	b.reach(sent)
	return req, b.came, b.ev
}

// wants holds what came at the sides, and what happened, against what should.
func (b *bench) wants(came []msg, ev []node.Event) {
	b.t.Helper()
	if !alike(b.came, came) {
		b.t.Errorf("came:\n%s, want\n%s", shownMsgs(b.came), shownMsgs(came))
	}
	if !alike(b.ev, ev) {
		b.t.Errorf("happened:\n%+v, want\n%+v", b.ev, ev)
	}
}

func shownMsgs(l []msg) string {
	s := ""
	for _, x := range l {
		s += fmt.Sprintf("at %d: %T%+v\n", x.To, x.Said, x.Said)
	}
	return s
}

// kinds picks what came of some kinds.
func kinds(l []msg, ks ...int) []msg {
	return slices.DeleteFunc(slices.Clone(l), func(x msg) bool { return !slices.Contains(ks, x.Said.Kind()) })
}
