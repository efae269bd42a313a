package node_test

import (
	"bytes"
	"testing"

	"annulet/api"
	"annulet/frame"
	"annulet/node"
	"annulet/route"
)

// P20.1: a packet goes to the nearest end that is known, one hop less ahead of it; with none left it is lost.
func TestGoesOn(t *testing.T) {
	p := key(7, 1)
	near := func(id byte, n int) route.Choice { return route.Choice{ID: spot(id), Near: true, N: n} }
	for _, c := range []struct {
		from int
		dst  byte
		want route.Choice
	}{
		{1, 0x70, near(0x70, 3)}, {1, 0x62, near(0x70, 3)}, {1, 0x68, near(0x70, 3)}, {1, 0x30, near(0x30, 1)}, {3, 0x20, near(0x30, 1)},
		{1, 0xf1, route.Choice{ID: spot(0xf0), P: p, N: 3}}, {3, 0x11, route.Choice{ID: spot(0x10), P: p, N: 1}}, {1, 0x80, near(0x70, 3)}, {1, 0xf0, route.Choice{ID: spot(0xf0), P: p, N: 3}},
	} {
		for _, ttl := range []int{0, 1, 2, 63, 64} {
			for op := api.OpSend; op <= api.OpAnswer; op++ {
				b := between(t)
				b.lay(p, 0x10, 0xf0, 1, 2, 3)
				x := api.Item{Key: spot(3), Ver: api.Ver{N: 2, Who: spot(4)}, Value: []byte("value")}
				said := frame.Packet{Src: spot(0x51), Dst: spot(c.dst), Req: 77, Op: op, TTL: ttl, Item: x, Text: bytes.Repeat([]byte{'t'}, 64)}
				b.say(c.from, said)
				e := node.Event{Kind: node.EvStep, Src: spot(0x51), Dst: spot(c.dst), Req: 77, Op: op, TTL: ttl, Choice: c.want}
				if ttl == 0 {
					e.Kind = node.EvLost
					b.wants(nil, []node.Event{e})
					continue
				}
				said.TTL--
				b.wants([]msg{{c.want.N, said}}, []node.Event{e})
			}
		}
	}
}

// answerTo is the answer that comes at a side, and the node's step to it.
func answerTo(dst byte, req int64, c route.Choice, e api.Errno, x api.Item) (msg, node.Event) {
	return msg{c.N, frame.Packet{Src: spot(0x50), Dst: spot(dst), Req: req, Op: api.OpAnswer, TTL: 63, Item: x, Text: []byte{byte(e)}}},
		node.Event{Kind: node.EvStep, Src: spot(0x50), Dst: spot(dst), Req: req, Op: api.OpAnswer, TTL: 64, Choice: c}
}

// P20.1: what a packet does at its end, and how it is answered: with whatever TTL it came.
func TestAtItsEnd(t *testing.T) {
	near := route.Choice{ID: spot(0x30), Near: true, N: 1}
	text := bytes.Repeat([]byte{'v'}, 64)
	kept := func(key byte, n int64, value []byte) api.Item {
		return api.Item{Key: spot(key), Ver: api.Ver{N: n, Who: spot(0x50)}, Value: value}
	}
	junk := api.Item{Key: spot(1), Ver: api.Ver{N: 50, Who: spot(1)}, Value: []byte("junk")}
	for _, ttl := range []int{0, 1, 64} {
		b := between(t)
		for i, c := range []struct {
			op     int
			dst    byte
			item   api.Item
			text   []byte
			first  node.Event
			code   api.Errno
			answer api.Item
		}{
			{api.OpSend, 0x50, junk, text, node.Event{Kind: node.EvUp, Text: text}, api.OK, api.Item{}},
			{api.OpSend, 0x50, junk, nil, node.Event{Kind: node.EvUp}, api.OK, api.Item{}},
			{api.OpSend, 0x51, junk, text, node.Event{}, api.ErrNone, api.Item{}},
			{api.OpGet, 0x50, junk, text, node.Event{}, api.ErrNone, api.Item{}},
			{api.OpPut, 0x50, junk, text, node.Event{Kind: node.EvKept, Item: kept(0x50, 1, []byte("junk"))}, api.OK, kept(0x50, 1, []byte("junk"))},
			{api.OpPut, 0x51, api.Item{Value: text}, nil, node.Event{Kind: node.EvKept, Item: kept(0x51, 1, text)}, api.OK, kept(0x51, 1, text)},
			{api.OpPut, 0x50, api.Item{}, text, node.Event{Kind: node.EvKept, Item: kept(0x50, 2, nil)}, api.OK, kept(0x50, 2, nil)},
			{api.OpGet, 0x50, junk, text, node.Event{}, api.OK, kept(0x50, 2, nil)},
			{api.OpGet, 0x51, junk, nil, node.Event{}, api.OK, kept(0x51, 1, text)},
			{api.OpGet, 0x52, junk, nil, node.Event{}, api.ErrNone, api.Item{}},
		} {
			b.say(3, frame.Packet{Src: spot(0x31), Dst: spot(c.dst), Req: int64(i), Op: c.op, TTL: ttl, Item: c.item, Text: c.text})
			came, step := answerTo(0x31, int64(i), near, c.code, c.answer)
			ev := []node.Event{step}
			if e := c.first; e.Kind != 0 {
				e.Src, e.Dst, e.Req, e.Op = spot(0x31), spot(c.dst), int64(i), c.op
				ev = []node.Event{e, step}
			}
			b.wants([]msg{came}, ev)
			if t.Failed() {
				t.Fatalf("the packet %d", i)
			}
		}
	}
}

// P20.1: an answer whose asker nobody nearer is known of ends here, and says nothing.
func TestAnswerToNobody(t *testing.T) {
	b := between(t)
	b.say(3, frame.Packet{Src: spot(0x52), Dst: spot(0x50), Req: 1<<32 + 1, Op: api.OpSend, TTL: 2, Text: []byte("a")})
	b.wants(nil, []node.Event{{Kind: node.EvUp, Src: spot(0x52), Dst: spot(0x50), Req: 1<<32 + 1, Op: api.OpSend, Text: []byte("a")}})
}

// P20.1: a node's own requests, of which it is the end itself.
func TestOwnRequests(t *testing.T) {
	self := spot(0x50)
	b := begin(t, usual(), 80)
	n := int64(1 << 32)
	answer := func(code api.Errno, x api.Item) node.Event {
		return node.Event{Kind: node.EvAnswer, Src: self, Dst: self, Req: n, Op: api.OpAnswer, Code: code, Item: x}
	}
	for i, c := range []struct {
		op   int
		dst  byte
		text string
		kind int
		code api.Errno
		item api.Item
	}{
		{api.OpGet, 0x10, "", 0, api.ErrNone, api.Item{}},
		{api.OpSend, 0x50, "me", node.EvUp, api.OK, api.Item{}},
		{api.OpSend, 0x10, "you", 0, api.ErrNone, api.Item{}},
		{api.OpPut, 0x10, "one", node.EvKept, api.OK, api.Item{Key: spot(0x10), Ver: api.Ver{N: 1, Who: self}, Value: []byte("one")}},
		{api.OpGet, 0x10, "", 0, api.OK, api.Item{Key: spot(0x10), Ver: api.Ver{N: 1, Who: self}, Value: []byte("one")}},
		{api.OpPut, 0x10, "", node.EvKept, api.OK, api.Item{Key: spot(0x10), Ver: api.Ver{N: 2, Who: self}}},
		{api.OpGet, 0x10, "", 0, api.OK, api.Item{Key: spot(0x10), Ver: api.Ver{N: 2, Who: self}}},
	} {
		n++
		req, _, _ := b.request(c.op, spot(c.dst), []byte(c.text))
		ev := []node.Event{answer(c.code, c.item)}
		first := node.Event{Kind: c.kind, Src: self, Dst: spot(c.dst), Req: n, Op: c.op}
		switch c.kind {
		case node.EvUp:
			first.Text = []byte(c.text)
			ev = append([]node.Event{first}, ev...)
		case node.EvKept:
			first.Item = c.item
			ev = append([]node.Event{first}, ev...)
		}
		b.wants(nil, ev)
		if req != n {
			t.Errorf("%d: the number %d, want %d", i, req, n)
		}
	}
}

// P20.1: a node's own requests that go on: with all hops ahead of them, a put's text as its item's value.
func TestAsksGoOn(t *testing.T) {
	b := between(t)
	text := bytes.Repeat([]byte{'v'}, 64)
	near := route.Choice{ID: spot(0x30), Near: true, N: 1}
	for i, c := range []struct {
		op   int
		text []byte
		item api.Item
		said []byte
	}{
		{api.OpSend, text, api.Item{}, text}, {api.OpSend, nil, api.Item{}, nil},
		{api.OpPut, text, api.Item{Value: text}, nil}, {api.OpPut, nil, api.Item{}, nil}, {api.OpGet, nil, api.Item{}, nil},
	} {
		n := int64(1<<32 + 1 + i)
		b.request(c.op, spot(0x2f), c.text)
		b.wants([]msg{{1, frame.Packet{Src: spot(0x50), Dst: spot(0x2f), Req: n, Op: c.op, TTL: 63, Item: c.item, Text: c.said}}},
			[]node.Event{{Kind: node.EvStep, Src: spot(0x50), Dst: spot(0x2f), Req: n, Op: c.op, TTL: 64, Choice: near}})
	}
}

// P20.1: an answer is taken once, if the node waits for it, of one byte; whoever sent it.
func TestAnswers(t *testing.T) {
	b := between(t)
	one, _, _ := b.request(api.OpGet, spot(0x30), nil)
	two, _, _ := b.request(api.OpSend, spot(0x70), []byte("a"))
	x := api.Item{Key: spot(9), Ver: api.Ver{N: 2}, Value: []byte("v")}
	answer := func(dst byte, req int64, text ...byte) frame.Packet {
		return frame.Packet{Src: spot(0x77), Dst: spot(dst), Req: req, Op: api.OpAnswer, TTL: 0, Item: x, Text: text}
	}
	told := func(req int64, code api.Errno) []node.Event {
		return []node.Event{{Kind: node.EvAnswer, Src: spot(0x77), Dst: spot(0x50), Req: req, Op: api.OpAnswer, Code: code, Item: x}}
	}
	for i, c := range []struct {
		said frame.Packet
		want []node.Event
	}{
		{answer(0x50, one), nil},
		{answer(0x50, one, 0, 0), nil},
		{answer(0x51, one, 0), nil},
		{answer(0x50, one-1, 0), nil},
		{answer(0x50, two+1, 0), nil},
		{answer(0x50, 1, 0), nil},
		{answer(0x50, 0, 0), nil},
		{answer(0x50, 1<<63-1, 0), nil},
		{answer(0x50, two, 255), told(two, 255)},
		{answer(0x50, two, 255), nil},
		{answer(0x50, one, 0), told(one, api.OK)},
		{answer(0x50, one, 6), nil},
		{answer(0x50, two, 0), nil},
	} {
		b.say(3, c.said)
		b.wants(nil, c.want)
		if t.Failed() {
			t.Fatalf("the answer %d", i)
		}
	}
	// A node that begins again waits for nothing that it asked for ahead.
	three, _, _ := b.request(api.OpGet, spot(0x30), nil)
	b.again()
	b.join(3, spot(0x70))
	b.say(3, answer(0x50, three, 0))
	b.wants(nil, nil)
}

// pile lets so many texts wait for a side, which hears them, but isn't heard.
func (b *bench) pile(i, n int) {
	b.t.Helper()
	b.sides[i].mute = true
	other := 4 - i
	for b.waiting(i) < n {
		b.say(other, frame.Packet{Src: spot(1), Dst: b.sides[i].id, Op: api.OpSend, TTL: 1})
	}
	b.forget()
}

func (b *bench) waiting(i int) int { return len(b.n.End(i).Out) }

// P20.1: where MaxCopies texts wait no item is sent, nor a Got; where MaxWait do nothing but what lays a path or takes it away.
func TestWaiting(t *testing.T) {
	p := key(7, 1)
	x := api.Item{Key: spot(9), Ver: api.Ver{N: 4, Who: spot(8)}, Value: []byte("v")}
	trail := []int{0, 1}
	for _, c := range []struct {
		said frame.Body
		most int
		want frame.Body
	}{
		{frame.Copy{P: p, Item: x}, 16, nil},
		{frame.Got{P: p, Key: x.Key, Ver: x.Ver}, 16, nil},
		{frame.Part{P: p}, 128, nil},
		{frame.Peers{P: p, IDs: []api.ID{spot(1)}}, 128, nil},
		{frame.Ask{Who: spot(1), Want: spot(2), Leg: 2, P: p, Trail: trail}, 128, frame.Ask{Who: spot(1), Want: spot(2), Leg: 2, P: p, Trail: []int{0, 1, 2}}},
		{frame.Packet{Src: spot(1), Dst: spot(0x70), Op: api.OpGet, TTL: 5, Text: []byte("t")}, 128, frame.Packet{Src: spot(1), Dst: spot(0x70), Op: api.OpGet, TTL: 4, Text: []byte("t")}},
		{frame.Setup{P: key(8, 1), A: spot(1), B: spot(2), Trail: []int{1, 2, 3}}, 1 << 30, nil},
		{frame.Drop{P: p}, 1 << 30, nil},
	} {
		for _, n := range []int{15, 16, 17, 127, 128, 129, 150} {
			b := between(t)
			b.lay(p, 0x30, 0x70, 1, 2, 3)
			b.pile(3, min(n, 128))
			// Behind MaxWait only these come.
			for i := b.waiting(3); i < n; i++ {
				b.lay(key(9, int64(i)), 0x30, 0x70, 1, 2, 3)
			}
			if b.waiting(3) != n {
				t.Fatalf("%d wait, not %d", b.waiting(3), n)
			}
			b.say(1, c.said)
			var want []msg
			if n < c.most {
				want = []msg{{3, c.said}}
				if c.want != nil {
					want[0].Said = c.want
				}
			}
			if !alike(b.came, want) || b.waiting(3) != n+len(want) {
				t.Errorf("%T behind %d texts: %v, want %v", c.said, n, b.came, want)
			}
		}
	}
}

// P20.1: what isn't sent for want of room there is a step of a packet all the same, and counts as sent nowhere.
func TestWaitingTicks(t *testing.T) {
	b := between(t)
	b.lay(key(7, 1), 0x70, 0x50, 3, 2)
	b.request(api.OpPut, spot(0x50), []byte("a"))
	b.pile(3, 128)
	b.say(1, frame.Packet{Src: spot(1), Dst: spot(0x70), Op: api.OpSend, TTL: 1})
	b.wants(nil, []node.Event{{Kind: node.EvStep, Src: spot(1), Dst: spot(0x70), Op: api.OpSend, TTL: 1, Choice: route.Choice{ID: spot(0x70), Near: true, N: 3}}})
	b.round()
	b.wants([]msg{{1, frame.Ask{Who: spot(0x50), Want: spot(0x30), Trail: []int{2}}}, {1, frame.Advert{ID: spot(0x50)}}}, nil)
	// Heard again, the side is told what is due: nothing was noted as sent.
	b.sides[3].mute = false
	b.round()
	if b.waiting(3) != 0 {
		t.Fatalf("%d wait still", b.waiting(3))
	}
	b.round()
	if n := len(kinds(b.came, api.Copy)); n != 1 {
		t.Errorf("%d Copies come", n)
	}
}

// P20.1: with 15 texts ahead of it the first of two Copies is sent in a tick, the second isn't.
func TestSixteenthCopy(t *testing.T) {
	b := between(t)
	b.lay(key(7, 1), 0x70, 0x50, 3, 2)
	b.lay(key(7, 2), 0x30, 0x50, 1, 2)
	b.request(api.OpPut, spot(0x50), []byte("a"))
	b.request(api.OpPut, spot(0x51), []byte("b"))
	// Peers and Advert come ahead.
	b.pile(3, 13)
	b.round()
	to3 := 0
	for _, x := range kinds(b.came, api.Copy) {
		if x.To == 3 {
			to3++
		}
	}
	if to3 != 1 || b.waiting(3) != 16 {
		t.Errorf("%d Copies come, %d texts wait", to3, b.waiting(3))
	}
}
