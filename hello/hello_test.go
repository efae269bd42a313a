package hello_test

import (
	"encoding/hex"
	"fmt"
	"math"
	"math/rand"
	"strconv"
	"strings"
	"testing"

	"annulet/api"
	"annulet/frame"
	"annulet/hello"
)

// What the chapter says of an end, told a second time: plain fields, all that was ever sent in the session, and frames laid by hand.

// told is an end: one of down, up, open.
type told struct {
	id, other  api.ID
	state      string
	mine, peer api.Num
	sent       []string // in this session
	known, got int
}

// answer is what a call answers, as text, so that a list without elements is the same as none.
type answer string

func frames(l ...api.Frame) answer { return answer(texts(nil, l...)) }

func comes(died, opened bool, text string, came bool, out ...api.Frame) answer {
	b := strconv.AppendBool([]byte("died "), died)
	b = strconv.AppendBool(append(b, " opened "...), opened)
	b = strconv.AppendQuote(append(b, " text "...), text)
	b = strconv.AppendBool(append(b, " came "...), came)
	return answer(texts(append(b, " out "...), out...))
}

func sends(f api.Frame, err api.Errno) answer {
	return answer(strconv.AppendInt(texts(nil, f), int64(err), 10))
}

// texts lays frames behind b: fields that none of these kinds has stand there only if one of them isn't zero.
func texts(b []byte, l ...api.Frame) []byte {
	for _, f := range l {
		b = append(append(b, '{'), "?HDA"[max(0, min(f.Kind, 3))])
		b = append(hex.AppendEncode(b, f.A[:]), ' ')
		for _, n := range []int64{int64(f.Kind), f.From.Inc, f.From.N, f.To.Inc, f.To.N, f.N} {
			b = append(strconv.AppendInt(b, n, 10), ' ')
		}
		b = strconv.AppendQuote(b, string(f.Text))
		if f.P != (api.Path{}) || f.ToA || f.B != (api.ID{}) || f.Op != 0 || f.TTL != 0 || len(f.Trail)+len(f.IDs)+len(f.Item.Value) > 0 || f.Item.Key != (api.ID{}) || f.Item.Ver != (api.Ver{}) {
			b = fmt.Append(b, f)
		}
		b = append(b, '}')
	}
	return b
}

func greeting(mine, seen api.Num, id api.ID) api.Frame {
	return api.Frame{Kind: 1, From: mine, To: seen, A: id}
}

func data(from, to api.Num, n int64, text string) api.Frame {
	return api.Frame{Kind: 2, From: from, To: to, N: n, Text: []byte(text)}
}

func ack(from, to api.Num, n int64) api.Frame {
	return api.Frame{Kind: 3, From: from, To: to, N: n}
}

func (m *told) greeting() api.Frame { return greeting(m.mine, m.peer, m.id) }

// forget begins a session.
func (m *told) forget() { m.sent, m.known, m.got = nil, 0, 0 }

func (m *told) rise(mine api.Num) answer {
	if m.state != "down" {
		return frames()
	}
	m.state, m.mine = "up", mine
	return frames(m.greeting())
}

func (m *told) fall() answer {
	was := m.state == "open"
	*m = told{id: m.id, state: "down"}
	return answer(fmt.Sprint(was))
}

func (m *told) tick() answer {
	if m.state == "down" {
		return frames()
	}
	if m.state == "up" {
		return frames(m.greeting())
	}
	var l []api.Frame
	for i, s := range m.sent {
		if i >= m.known {
			l = append(l, data(m.mine, m.peer, int64(i+1), s))
		}
	}
	return frames(l...)
}

func (m *told) send(text string) answer {
	if m.state != "open" {
		return sends(api.Frame{}, 10)
	}
	if len(text) > 4096 {
		return sends(api.Frame{}, 4)
	}
	m.sent = append(m.sent, text)
	return sends(data(m.mine, m.peer, int64(len(m.sent)), text), 0)
}

// less is the order of numbers: Inc, then N.
func less(a, b api.Num) bool {
	if a.Inc == b.Inc {
		return a.N < b.N
	}
	return a.Inc < b.Inc
}

func (m *told) hear(f api.Frame, next api.Num) answer {
	if m.state == "down" {
		return comes(false, false, "", false)
	}
	if f.Kind == 1 {
		return m.hearGreeting(f.From, f.To, f.A, next)
	}
	if f.Kind != 2 && f.Kind != 3 || f.To != m.mine || f.From != m.peer {
		return comes(false, false, "", false)
	}
	opened := m.state == "up"
	m.state = "open"
	if f.Kind == 3 {
		if f.N > int64(m.known) && f.N <= int64(len(m.sent)) {
			m.known = int(f.N)
		}
		return comes(false, opened, "", false)
	}
	if f.N-1 != int64(m.got) {
		return comes(false, opened, "", false, ack(m.mine, m.peer, int64(m.got)))
	}
	m.got++
	return comes(false, opened, string(f.Text), true, ack(m.mine, m.peer, int64(m.got)))
}

func (m *told) hearGreeting(x, seen api.Num, id api.ID, next api.Num) answer {
	if less(x, m.peer) || x.Inc == 0 && x.N == 0 {
		return comes(false, false, "", false)
	}
	died := false
	if less(m.peer, x) {
		if m.state == "open" {
			died, m.mine = true, next
		}
		m.state, m.peer, m.other = "up", x, id
		m.forget()
	}
	if seen != m.mine {
		return comes(died, false, "", false, m.greeting())
	}
	if m.state == "up" {
		m.state = "open"
		return comes(died, true, "", false, m.greeting())
	}
	return comes(died, false, "", false, ack(m.mine, m.peer, int64(m.got)))
}

// tells is all that a telling end tells.
func (m *told) tells() string {
	var other api.ID
	if m.state == "open" {
		other = m.other
	}
	return telling(m.state != "down", m.state == "open", other, m.mine, m.peer, int64(m.known+1), m.sent[m.known:], int64(m.got), len(m.sent)-m.known)
}

func telling(up, open bool, other api.ID, mine, peer api.Num, first int64, waits []string, got int64, waiting int) string {
	b := strconv.AppendBool([]byte("up "), up)
	b = strconv.AppendBool(append(b, " open "...), open)
	b = hex.AppendEncode(append(b, ' '), other[:])
	for _, n := range []int64{mine.Inc, mine.N, peer.Inc, peer.N, first, got, int64(waiting)} {
		b = strconv.AppendInt(append(b, ' '), n, 10)
	}
	for _, s := range waits {
		b = strconv.AppendQuote(append(b, ' '), s)
	}
	return string(b)
}

func tells(e *hello.End) string {
	other, open := e.Open()
	mine, peer := e.Pair()
	first, waits, got := e.Window()
	var l []string
	for _, b := range waits {
		l = append(l, string(b))
	}
	return telling(e.Up(), open, other, mine, peer, first, l, got, e.Waiting())
}

// ask is one call.
type ask struct {
	what string // Rise, Fall, Tick, Send, Hear
	num  api.Num
	text string
	f    api.Frame
}

func (a ask) String() string {
	return fmt.Sprint(a.what, a.num, strconv.Quote(a.text[:min(len(a.text), 20)]), a.f.Kind, a.f.From, a.f.To, a.f.A[0], a.f.N)
}

// does asks an end.
func does(e *hello.End, a ask) answer {
	switch a.what {
	case "Rise":
		return frames(e.Rise(a.num)...)
	case "Fall":
		return answer(fmt.Sprint(e.Fall()))
	case "Tick":
		return frames(e.Tick()...)
	case "Send":
		return sends(e.Send([]byte(a.text)))
	}
	w := e.Hear(a.f, a.num)
	return comes(w.Died, w.Opened, string(w.Text), w.Came, w.Out...)
}

// should is what is answered as the chapter says.
func (m *told) should(a ask) answer {
	switch a.what {
	case "Rise":
		return m.rise(a.num)
	case "Fall":
		return m.fall()
	case "Tick":
		return m.tick()
	case "Send":
		return m.send(a.text)
	}
	return m.hear(a.f, a.num)
}

// pair is an end and its second telling.
type pair struct {
	e *hello.End
	m *told
}

func newPair(id api.ID) pair {
	return pair{hello.New(id), &told{id: id, state: "down"}}
}

// do asks both the same, and holds the answers, and all that is told behind the call, against each other.
func (p pair) do(t *testing.T, asks ...ask) {
	t.Helper()
	for _, a := range asks {
		got, want := does(p.e, a), p.m.should(a)
		if got != want {
			t.Fatalf("%v answers\n%s, wanted\n%s", a, got, want)
		}
		if got, want := tells(p.e), p.m.tells(); got != want {
			t.Fatalf("%v: told is\n%s, wanted\n%s", a, got, want)
		}
	}
}

// answers asks both, and holds the answer against one that is worked out by hand, too.
func (p pair) answers(t *testing.T, a ask, want answer) {
	t.Helper()
	before := *p.m
	before.sent = append([]string{}, p.m.sent...)
	if got := before.should(a); got != want {
		t.Fatalf("%v: the second telling answers\n%s, wanted\n%s", a, got, want)
	}
	p.do(t, a)
}

func num(inc, n int64) api.Num { return api.Num{Inc: inc, N: n} }

func rise(mine api.Num) ask              { return ask{what: "Rise", num: mine} }
func hear(f api.Frame, next api.Num) ask { return ask{what: "Hear", f: f, num: next} }
func send(text string) ask               { return ask{what: "Send", text: text} }

var (
	fall = ask{what: "Fall"}
	tick = ask{what: "Tick"}
	zero api.Num
	me   = api.ID{1, 2, 3, 15: 9}
	you  = api.ID{7, 7, 15: 1}
	they = api.ID{8, 0, 15: 2}
)

// The numbers of an end in one of the states below.
var (
	mine = num(3, 4)
	peer = num(5, 6)
	next = num(3, 5)
)

// ways are the calls behind which an end stands in all ways in which one may.
func ways() map[string][]ask {
	return map[string][]ask{
		"new":           {},
		"fell":          {rise(num(1, 1)), hear(greeting(num(2, 2), num(1, 1), you), zero), send("x"), fall},
		"up":            {rise(mine)},
		"rose again":    {rise(num(1, 1)), hear(greeting(num(9, 9), num(1, 1), you), zero), send("x"), hear(data(num(9, 9), num(1, 1), 1, "y"), zero), fall, rise(mine)},
		"known":         {rise(mine), hear(greeting(peer, zero, you), next)},
		"known anew":    {rise(mine), hear(greeting(num(4, 9), zero, they), next), hear(greeting(peer, num(1, 1), you), next)},
		"died":          {rise(num(3, 3)), hear(greeting(num(5, 5), num(3, 3), they), zero), send("x"), hear(data(num(5, 5), num(3, 3), 1, "y"), zero), hear(greeting(peer, num(3, 3), you), mine)},
		"open":          {rise(mine), hear(greeting(peer, mine, you), next)},
		"open by data":  {rise(mine), hear(greeting(peer, zero, you), next), hear(data(peer, mine, 1, "a"), next)},
		"open by ack":   {rise(mine), hear(greeting(peer, zero, you), next), hear(ack(peer, mine, 0), next)},
		"open with two": {rise(mine), hear(greeting(peer, mine, you), next), send("one"), send("two"), send("three"), send(""), hear(ack(peer, mine, 2), next), hear(data(peer, mine, 1, "a"), next), hear(data(peer, mine, 2, "b"), next), hear(data(peer, mine, 3, "c"), next)},
	}
}

// stateOf is an end that was asked these.
func stateOf(t *testing.T, asks []ask) pair {
	t.Helper()
	p := newPair(me)
	for _, a := range asks {
		p.step(t, a)
	}
	return p
}

// inState is one that stands so.
func inState(t *testing.T, name string) pair {
	t.Helper()
	asks, ok := ways()[name]
	if !ok {
		t.Fatal("no state", name)
	}
	return stateOf(t, asks)
}

// probe asks an end all kinds of things, so that what a call has left behind is seen.
func probe() []ask {
	return []ask{tick, send("p"), tick, hear(data(peer, mine, 2, "q"), next), hear(greeting(peer, mine, they), next), hear(ack(peer, mine, 1), next), tick, rise(num(8, 8)), hear(greeting(num(6, 1), zero, they), num(3, 9)), fall, rise(num(9, 1)), tick}
}

// P9.1: the chapter's example.
func TestExample(t *testing.T) {
	one := num(1, 1)
	a, b := newPair(me), newPair(you)
	a.answers(t, rise(one), frames(greeting(one, zero, me)))
	b.answers(t, rise(one), frames(greeting(one, zero, you)))
	a.answers(t, hear(greeting(one, zero, you), zero), comes(false, false, "", false, greeting(one, one, me)))
	if _, open := a.e.Open(); open {
		t.Error("a greeting that saw nobody opened the session")
	}
	if m, p := a.e.Pair(); m != one || p != one {
		t.Error("the pair is", m, p)
	}
	b.answers(t, hear(greeting(one, one, me), zero), comes(false, true, "", false, greeting(one, one, you)))
	if id, open := b.e.Open(); id != me || !open {
		t.Error("Open answers", id, open)
	}
	a.answers(t, hear(greeting(one, one, you), zero), comes(false, true, "", false, greeting(one, one, me)))
	if id, open := a.e.Open(); id != you || !open {
		t.Error("Open answers", id, open)
	}
	b.answers(t, hear(greeting(one, one, me), zero), comes(false, false, "", false, ack(one, one, 0)))
	a.answers(t, hear(ack(one, one, 0), zero), comes(false, false, "", false))
}

// P9.1: an end that is down, new or fallen: nothing is heard, sent or told.
func TestDown(t *testing.T) {
	for _, name := range []string{"new", "fell"} {
		p := inState(t, name)
		for _, f := range []api.Frame{{}, greeting(peer, mine, you), greeting(peer, zero, you), data(zero, zero, 1, "a"), data(num(2, 2), num(1, 1), 1, "a"), ack(zero, zero, 0), ack(num(2, 2), num(1, 1), 1)} {
			p.answers(t, hear(f, next), comes(false, false, "", false))
		}
		p.answers(t, tick, frames())
		for _, s := range []string{"", "a", strings.Repeat("a", 4097)} {
			p.answers(t, send(s), sends(api.Frame{}, api.ErrOpen))
		}
		p.answers(t, fall, "false")
		first, waits, got := p.e.Window()
		m, q := p.e.Pair()
		id, open := p.e.Open()
		if p.e.Up() || first != 1 || len(waits) != 0 || got != 0 || m != zero || q != zero || id != (api.ID{}) || open || p.e.Waiting() != 0 {
			t.Error(name, "tells", p.e.Up(), first, waits, got, m, q, id, open, p.e.Waiting())
		}
		p.do(t, probe()...)
	}
}

// P9.1: Rise, of an end that is down by any number, of one that is up or open in vain.
func TestRise(t *testing.T) {
	for name, asks := range ways() {
		for _, n := range []api.Num{zero, num(1, 1), mine, peer, next, num(0, 1), num(1, 0), num(-1, -1), num(math.MaxInt64, math.MinInt64)} {
			p := stateOf(t, asks)
			want := frames()
			if name == "new" || name == "fell" {
				want = frames(greeting(n, zero, me))
			}
			p.answers(t, rise(n), want)
			p.answers(t, rise(num(50, 1)), frames())
			p.do(t, probe()...)
		}
	}
}

// P9.1: Fall, of an end in every state: all is as in New, but for its identity.
func TestFall(t *testing.T) {
	for name, asks := range ways() {
		p := stateOf(t, asks)
		was := strings.HasPrefix(name, "open")
		p.answers(t, fall, answer(fmt.Sprint(was)))
		if got, want := tells(p.e), tells(hello.New(me)); got != want {
			t.Error(name, "fell: told is", got, "wanted", want)
		}
		p.answers(t, fall, "false")
		p.answers(t, tick, frames())
		p.answers(t, rise(num(4, 1)), frames(greeting(num(4, 1), zero, me)))
		p.answers(t, hear(greeting(num(1, 1), num(4, 1), they), zero), comes(false, true, "", false, greeting(num(4, 1), num(1, 1), me)))
		p.answers(t, send("new"), sends(data(num(4, 1), num(1, 1), 1, "new"), api.OK))
	}
}

// P9.1: Tick, when it is down, up, open with none and with some that wait; as often as one likes.
func TestTick(t *testing.T) {
	for name, want := range map[string]answer{
		"new":           frames(),
		"fell":          frames(),
		"up":            frames(greeting(mine, zero, me)),
		"rose again":    frames(greeting(mine, zero, me)),
		"known":         frames(greeting(mine, peer, me)),
		"known anew":    frames(greeting(mine, peer, me)),
		"died":          frames(greeting(mine, peer, me)),
		"open":          frames(),
		"open by data":  frames(),
		"open by ack":   frames(),
		"open with two": frames(data(mine, peer, 3, "three"), data(mine, peer, 4, "")),
	} {
		p := inState(t, name)
		for range 3 {
			p.answers(t, tick, want)
		}
		p.do(t, probe()...)
	}
}

// P9.1: Send, in every state, of every length that could matter; one that is refused changes nothing.
func TestSend(t *testing.T) {
	for name, asks := range ways() {
		for _, n := range []int{0, 1, 2, 4095, 4096, 4097, 4098, 8192, 70000} {
			p := stateOf(t, asks)
			text := strings.Repeat("x", n)
			want := sends(api.Frame{}, api.ErrOpen)
			if strings.HasPrefix(name, "open") {
				want = sends(data(mine, peer, int64(len(p.m.sent)+1), text), api.OK)
			}
			if strings.HasPrefix(name, "open") && n > api.MaxFrame {
				want = sends(api.Frame{}, api.ErrLong)
			}
			p.answers(t, send(text), want)
			p.do(t, probe()...)
		}
	}
}

// P9.1: no bound of how many texts wait is named: all do, and all are said again.
func TestManyWait(t *testing.T) {
	p := inState(t, "open")
	for k := range 2 * api.MaxFly {
		p.do(t, send(strconv.Itoa(k)))
	}
	p.do(t, tick, hear(ack(peer, mine, 300), next), tick, hear(ack(peer, mine, 512), next), tick)
}

// numbers are those that could be mistaken for less or greater than a peer's: by N alone, by 32 bits, without a sign, by a difference that is too great.
func numbers(near ...api.Num) []api.Num {
	l := []api.Num{zero, num(0, 1), num(1, 0), num(0, -1), num(-1, 0), num(-1, 9), num(9, -1), num(-1, -1), num(math.MaxInt64, math.MaxInt64), num(math.MinInt64, math.MinInt64), num(math.MinInt64, math.MaxInt64), num(math.MaxInt64, math.MinInt64), num(0, math.MinInt64), num(0, math.MaxInt64)}
	for _, a := range near {
		for _, inc := range []int64{a.Inc, a.Inc - 1, a.Inc + 1, a.Inc + 1<<32, a.Inc - 1<<32, a.Inc + 1<<62, math.MinInt64 + a.Inc} {
			for _, n := range []int64{a.N, a.N - 1, a.N + 1, a.N + 1<<32, a.N - 1<<32, -a.N, math.MaxInt64, math.MinInt64, 0} {
				l = append(l, num(inc, n))
			}
		}
		l = append(l, num(a.N, a.Inc))
	}
	return l
}

// P9.1: greetings of all numbers that could be mistaken, and that saw whatever they like, in every state.
func TestGreetings(t *testing.T) {
	for _, asks := range ways() {
		for _, x := range numbers(peer, mine) {
			for _, seen := range []api.Num{mine, next, peer, zero, x, num(mine.Inc, 1), num(1, mine.N), num(mine.N, mine.Inc), num(mine.Inc+1<<32, mine.N), num(mine.Inc, mine.N+1<<32)} {
				p := stateOf(t, asks)
				p.do(t, hear(greeting(x, seen, they), next))
				p.do(t, tick, hear(greeting(x, mine, you), num(3, 6)), send("a"), tick, hear(data(x, mine, 1, "b"), num(3, 7)), fall)
			}
		}
	}
}

// P9.1: greetings worked out by hand: x less than peer, peer itself, greater, zero, of the same Inc and another N.
func TestGreetingsByHand(t *testing.T) {
	nothing := comes(false, false, "", false)
	for _, c := range []struct {
		state   string
		x, seen api.Num
		want    answer
	}{
		{"up", zero, mine, nothing},
		{"up", zero, zero, nothing},
		{"up", num(0, -1), mine, nothing},
		{"up", num(-1, 5), mine, nothing},
		{"up", num(0, 1), zero, comes(false, false, "", false, greeting(mine, num(0, 1), me))},
		{"up", num(0, 1), mine, comes(false, true, "", false, greeting(mine, num(0, 1), me))},
		{"up", peer, zero, comes(false, false, "", false, greeting(mine, peer, me))},
		{"up", peer, next, comes(false, false, "", false, greeting(mine, peer, me))},
		{"up", peer, mine, comes(false, true, "", false, greeting(mine, peer, me))},
		{"known", zero, mine, nothing},
		{"known", num(5, 5), mine, nothing},
		{"known", num(4, 99), mine, nothing},
		{"known", peer, zero, comes(false, false, "", false, greeting(mine, peer, me))},
		{"known", peer, mine, comes(false, true, "", false, greeting(mine, peer, me))},
		{"known", num(5, 7), zero, comes(false, false, "", false, greeting(mine, num(5, 7), me))},
		{"known", num(5, 7), mine, comes(false, true, "", false, greeting(mine, num(5, 7), me))},
		{"known", num(6, 0), next, comes(false, false, "", false, greeting(mine, num(6, 0), me))},
		{"open with two", zero, mine, nothing},
		{"open with two", num(5, 5), mine, nothing},
		{"open with two", num(4, 99), zero, nothing},
		{"open with two", peer, mine, comes(false, false, "", false, ack(mine, peer, 3))},
		{"open with two", peer, zero, comes(false, false, "", false, greeting(mine, peer, me))},
		{"open with two", peer, next, comes(false, false, "", false, greeting(mine, peer, me))},
		{"open with two", num(5, 7), zero, comes(true, false, "", false, greeting(next, num(5, 7), me))},
		{"open with two", num(5, 7), mine, comes(true, false, "", false, greeting(next, num(5, 7), me))},
		{"open with two", num(6, 1), mine, comes(true, false, "", false, greeting(next, num(6, 1), me))},
		{"open with two", num(6, 1), next, comes(true, true, "", false, greeting(next, num(6, 1), me))},
	} {
		p := inState(t, c.state)
		p.answers(t, hear(greeting(c.x, c.seen, they), next), c.want)
	}
}

// P9.1: whose identity it is: the one of the greeting that told the number, not of a later one; not till it is open.
func TestIdentity(t *testing.T) {
	p := inState(t, "up")
	for _, c := range []struct {
		a    ask
		id   api.ID
		open bool
	}{
		{hear(greeting(peer, zero, you), next), api.ID{}, false},
		{hear(greeting(peer, zero, they), next), api.ID{}, false},
		{hear(greeting(peer, mine, they), next), you, true},
		{hear(greeting(peer, mine, they), next), you, true},
		{hear(greeting(num(5, 5), mine, they), next), you, true},
		{hear(greeting(num(5, 7), mine, they), next), api.ID{}, false},
		{hear(data(num(5, 7), next, 1, "a"), num(3, 6)), they, true},
		{fall, api.ID{}, false},
		{rise(num(3, 7)), api.ID{}, false},
		{hear(greeting(num(5, 8), zero, me), zero), api.ID{}, false},
		{hear(ack(num(5, 8), num(3, 7), 0), zero), me, true},
	} {
		p.do(t, c.a)
		if id, open := p.e.Open(); id != c.id || open != c.open {
			t.Fatal(c.a, "Open answers", id, open)
		}
	}
}

// P9.1: data and acknowledgements of all numbers, of this session and of others, in every state.
func TestSpoken(t *testing.T) {
	near := []api.Num{zero, mine, peer, next, num(5, 5), num(5, 7), num(3, 3), num(6, 5), num(4, 3), num(5+1<<32, 6), num(5, 6+1<<32), num(3+1<<32, 4), num(3, 4+1<<32), num(-5, -6), num(1, 1), num(2, 2)}
	for _, asks := range ways() {
		for _, from := range near {
			for _, to := range near {
				for _, n := range []int64{math.MinInt64, -1, 0, 1, 2, 3, 4, 5, 1<<32 + 1, 1<<32 + 4, math.MaxInt64} {
					p := stateOf(t, asks)
					p.do(t, hear(data(from, to, n, "text"), next), hear(ack(from, to, n), next), tick, send("a"), hear(data(from, to, n, "again"), next), hear(ack(from, to, n), next))
				}
			}
		}
	}
}

// P9.1: data and acknowledgements worked out by hand: what opens the session, what is due, came already or comes too early, and what is another session's.
func TestSpokenByHand(t *testing.T) {
	nothing := comes(false, false, "", false)
	for _, c := range []struct {
		state string
		f     api.Frame
		want  answer
	}{
		{"known", data(peer, mine, 1, "a"), comes(false, true, "a", true, ack(mine, peer, 1))},
		{"known", data(peer, mine, 1, ""), comes(false, true, "", true, ack(mine, peer, 1))},
		{"known", data(peer, mine, 2, "a"), comes(false, true, "", false, ack(mine, peer, 0))},
		{"known", data(peer, mine, 0, "a"), comes(false, true, "", false, ack(mine, peer, 0))},
		{"known", ack(peer, mine, 0), comes(false, true, "", false)},
		{"known", ack(peer, mine, 5), comes(false, true, "", false)},
		{"known", data(mine, peer, 1, "a"), nothing},
		{"known", data(peer, zero, 1, "a"), nothing},
		{"known", data(zero, mine, 1, "a"), nothing},
		{"known", data(peer, next, 1, "a"), nothing},
		{"known", data(num(5, 7), mine, 1, "a"), nothing},
		{"known", ack(num(5, 7), mine, 0), nothing},
		{"known", ack(peer, num(3, 3), 0), nothing},
		{"known", ack(mine, peer, 0), nothing},
		{"up", data(peer, mine, 1, "a"), nothing},
		{"up", ack(peer, mine, 0), nothing},
		{"open with two", data(peer, mine, 4, "d"), comes(false, false, "d", true, ack(mine, peer, 4))},
		{"open with two", data(peer, mine, 3, "c"), comes(false, false, "", false, ack(mine, peer, 3))},
		{"open with two", data(peer, mine, 1, "a"), comes(false, false, "", false, ack(mine, peer, 3))},
		{"open with two", data(peer, mine, 5, "e"), comes(false, false, "", false, ack(mine, peer, 3))},
		{"open with two", data(peer, mine, -4, "e"), comes(false, false, "", false, ack(mine, peer, 3))},
		{"open with two", data(peer, num(3, 3), 4, "d"), nothing},
		{"open with two", data(num(5, 5), mine, 4, "d"), nothing},
		{"open with two", ack(peer, num(3, 3), 4), nothing},
		{"open with two", ack(num(5, 5), mine, 4), nothing},
		{"open with two", ack(peer, mine, 4), nothing},
	} {
		p := inState(t, c.state)
		p.answers(t, hear(c.f, next), c.want)
	}
}

// P9.1: how many wait behind acknowledgements, and whether the session is open behind each.
func TestAcked(t *testing.T) {
	for n, left := range map[int64]int{math.MinInt64: 2, -3: 2, 0: 2, 1: 2, 2: 2, 3: 1, 4: 0, 5: 2, 1<<32 + 3: 2, math.MaxInt64: 2} {
		p := inState(t, "open with two")
		p.do(t, hear(ack(peer, num(3, 3), n), next), hear(ack(num(5, 5), mine, n), next))
		if p.e.Waiting() != 2 {
			t.Error("another session's acknowledgement is taken")
		}
		p.do(t, hear(ack(peer, mine, n), next))
		first, waits, got := p.e.Window()
		if p.e.Waiting() != left || len(waits) != left || first != int64(5-left) || got != 3 {
			t.Error("Ack", n, "leaves", p.e.Waiting(), first, waits, got)
		}
		p.do(t, probe()...)
	}
}

// P9.1: as long as its number isn't known, the other end's is zero, and that is what From is held against, as the words say.
func TestZeroPeer(t *testing.T) {
	for _, f := range []api.Frame{data(zero, mine, 1, "a"), data(zero, mine, 2, "a"), ack(zero, mine, 0)} {
		p := inState(t, "up")
		p.do(t, hear(f, next))
		if id, open := p.e.Open(); id != (api.ID{}) || !open {
			t.Error("Open answers", id, open)
		}
		p.do(t, probe()...)
	}
}

// full is a frame of which each field is something.
func full(kind int) api.Frame {
	return api.Frame{Kind: kind, P: api.Path{Who: you, N: 4}, ToA: true, A: you, B: they, N: 1, From: peer, To: mine, Trail: []int{1, 2, 99}, IDs: []api.ID{me, you}, Item: api.Item{Key: me, Ver: api.Ver{N: 3, Who: you}, Value: []byte("value")}, Op: 3, TTL: 9, Text: []byte("text")}
}

// P9.1: frames of all other kinds, and of no kind, are nothing, whatever they hold.
func TestOtherKinds(t *testing.T) {
	kinds := []int{math.MinInt, -3, -2, -1, 0, 13, 14, 255, 256, 257, 258, 259, 1<<32 + 1, 1<<32 + 2, 1<<32 + 3, math.MaxInt}
	for k := 4; k <= 12; k++ {
		kinds = append(kinds, k)
	}
	for name, asks := range ways() {
		for _, k := range kinds {
			p := stateOf(t, asks)
			before := tells(p.e)
			p.answers(t, hear(full(k), next), comes(false, false, "", false))
			p.answers(t, hear(api.Frame{Kind: k}, next), comes(false, false, "", false))
			if got := tells(p.e); got != before {
				t.Fatal(name, "kind", k, "changed what is told:", got, "it was", before)
			}
			p.do(t, probe()...)
		}
	}
}

// P9.1, R5: fields that don't count change nothing, and aren't told on.
func TestFieldsThatDontCount(t *testing.T) {
	for name, asks := range ways() {
		for _, bare := range []api.Frame{greeting(peer, mine, you), greeting(peer, zero, you), greeting(num(7, 7), mine, you), data(peer, mine, 1, "a"), data(peer, mine, 4, "a"), data(mine, peer, 4, "a"), ack(peer, mine, 3), ack(peer, next, 3)} {
			f := full(bare.Kind)
			f.From, f.To = bare.From, bare.To
			if f.Kind == api.Hello {
				f.A = bare.A
			} else {
				f.N = bare.N
			}
			if f.Kind == api.Data {
				f.Text = bare.Text
			}
			p, q := stateOf(t, asks), stateOf(t, asks)
			p.do(t, hear(f, next))
			q.do(t, hear(bare, next))
			if got, want := tells(p.e), tells(q.e); got != want {
				t.Fatal(name, bare, "told is", got, "wanted", want)
			}
			p.do(t, probe()...)
		}
	}
}

// P9.1: a text that is heard may be of any length: what may not be is passed over.
func TestLongTextHeard(t *testing.T) {
	for _, n := range []int{0, 1, 4096, 4097, 70000} {
		p := inState(t, "open with two")
		text := strings.Repeat("y", n)
		p.answers(t, hear(data(peer, mine, 4, text), next), comes(false, false, text, true, ack(mine, peer, 4)))
	}
}

// P9.1: all scripts of five calls, out of fourteen.
func TestShortScripts(t *testing.T) {
	a, b, x, y := num(1, 1), num(1, 2), num(1, 1), num(2, 0)
	asks := []ask{rise(a), fall, tick, send("s"), hear(greeting(x, zero, you), b), hear(greeting(x, a, you), b), hear(greeting(y, zero, they), b), hear(greeting(y, a, they), a), hear(greeting(y, b, they), b), hear(data(x, a, 1, "t"), b), hear(data(y, b, 1, "u"), b), hear(ack(x, a, 1), b), hear(ack(y, b, 1), b), rise(b)}
	script := make([]int, 5)
	for {
		p := newPair(me)
		for _, k := range script {
			p.step(t, asks[k])
		}
		if got, want := tells(p.e), p.m.tells(); got != want {
			t.Fatalf("%v: told is\n%s, wanted\n%s", script, got, want)
		}
		at := 0
		for at < len(script) && script[at] == len(asks)-1 {
			script[at] = 0
			at++
		}
		if at == len(script) {
			return
		}
		script[at]++
	}
}

// step is do, without all that is told behind it.
func (p pair) step(t *testing.T, a ask) {
	t.Helper()
	if got, want := does(p.e, a), p.m.should(a); got != want {
		t.Fatalf("%v answers\n%s, wanted\n%s", a, got, want)
	}
}

// P9.1: long scripts, of calls in any order and numbers that are mostly near to those that matter.
func TestScripts(t *testing.T) {
	r := rand.New(rand.NewSource(91))
	opened, came, died := 0, 0, 0
	for range 400 {
		p := newPair(api.ID{byte(r.Intn(3))})
		for range 200 {
			a := anAsk(r, p.m)
			before := *p.m
			p.do(t, a)
			if before.state != "open" && p.m.state == "open" {
				opened++
			}
			if before.got < p.m.got {
				came++
			}
			if before.state == "open" && a.what == "Hear" && p.m.peer != before.peer {
				died++
			}
		}
	}
	if opened < 1000 || came < 1000 || died < 300 {
		t.Error("the scripts say too little:", opened, "opened,", came, "came,", died, "died")
	}
}

// anAsk is a call that does something, more often than not.
func anAsk(r *rand.Rand, m *told) ask {
	switch c := r.Intn(40); {
	case c < 1:
		return fall
	case c < 4:
		return rise(aNum(r, m))
	case c < 7:
		return tick
	case c < 12:
		return send(strings.Repeat(strconv.Itoa(c), []int{0, 1, 2, 3, 4096, 4097}[r.Intn(6)]))
	}
	f := full(1 + r.Intn(3))
	f.A, f.From, f.To = api.ID{byte(r.Intn(4))}, m.peer, m.mine
	f.N = int64([]int{m.got, m.known, len(m.sent)}[r.Intn(3)] + r.Intn(4) - 1)
	f.Text = []byte(strconv.Itoa(r.Intn(1000)))
	switch r.Intn(6) {
	case 0:
		f.From = aNum(r, m)
	case 1:
		f.To = aNum(r, m)
	case 2:
		f.Kind = r.Intn(15) - 1
	}
	if f.Kind == 1 && m.peer == zero {
		f.From = aNum(r, m)
	}
	return hear(f, aNum(r, m))
}

// aNum is a number near to one of an end's, or anything.
func aNum(r *rand.Rand, m *told) api.Num {
	n := []api.Num{m.mine, m.peer, num(1, 1), num(int64(r.Intn(4)), int64(r.Intn(4)))}[r.Intn(4)]
	switch r.Intn(8) {
	case 0:
		n.Inc += int64(r.Intn(3) - 1)
	case 1:
		n.N += int64(r.Intn(3) - 1)
	case 2:
		n.N, n.Inc = n.Inc, n.N
	}
	if r.Intn(400) == 0 {
		l := numbers(m.mine, m.peer)
		n = l[r.Intn(len(l))]
	}
	return n
}

// R1: a nil end at every call, and again behind each.
func TestNil(t *testing.T) {
	var e *hello.End
	for range 2 {
		for _, n := range []api.Num{zero, num(1, 1)} {
			if l := e.Rise(n); len(l) != 0 {
				t.Error("Rise answers", l)
			}
			for k := -1; k < 14; k++ {
				for _, f := range []api.Frame{{Kind: k}, full(k)} {
					if got := does(e, hear(f, n)); got != comes(false, false, "", false) {
						t.Error("Hear answers", got)
					}
				}
			}
		}
		for _, text := range [][]byte{nil, {}, []byte("a"), make([]byte, 4097)} {
			if f, err := e.Send(text); fmt.Sprint(f) != fmt.Sprint(api.Frame{}) || err != api.ErrOpen {
				t.Error("Send answers", f, err)
			}
		}
		if l := e.Tick(); len(l) != 0 || e.Fall() || e.Up() || e.Waiting() != 0 {
			t.Error("a nil end ticks, falls, is up or waits")
		}
		id, open := e.Open()
		m, p := e.Pair()
		first, waits, got := e.Window()
		if id != (api.ID{}) || open || m != zero || p != zero || first != 0 || len(waits) != 0 || got != 0 {
			t.Error("a nil end tells", id, open, m, p, first, waits, got)
		}
	}
}

// spoil changes bytes, their spare room too.
func spoil(b []byte) {
	b = b[:cap(b)]
	for i := range b {
		b[i] ^= 0xff
	}
}

// spoilAll changes all that hangs on frames, and they themselves.
func spoilAll(l []api.Frame) {
	for i := range l {
		spoil(l[i].Text)
		spoil(l[i].Item.Value)
		clear(l[i].Trail[:cap(l[i].Trail)])
		clear(l[i].IDs[:cap(l[i].IDs)])
	}
	clear(l[:cap(l)])
}

// R3: what is sent stays as it is, spare room too, and what becomes of it, or of the frame that was answered, later no end sees.
func TestSentIsCopied(t *testing.T) {
	p := inState(t, "open")
	room := []byte("0123456789")
	for i, b := range [][]byte{room[2:5], room[2:5], room[4:8:9], room[6:6]} {
		f, err := p.e.Send(b)
		if f.N != int64(i+1) || string(f.Text) != string(b) || err != api.OK {
			t.Fatal("Send answers", f, err)
		}
		_ = append(f.Text, "xyz"...)
		spoilAll([]api.Frame{f})
	}
	if string(room) != "0123456789" {
		t.Fatalf("what was sent is now %q", room)
	}
	spoil(room)
	_, waits, _ := p.e.Window()
	if got := fmt.Sprintf("%s", waits); got != "[234 234 4567 ]" {
		t.Fatal("what waits is", got)
	}
	want := frames(data(mine, peer, 1, "234"), data(mine, peer, 2, "234"), data(mine, peer, 3, "4567"), data(mine, peer, 4, ""))
	for range 2 {
		l := p.e.Tick()
		if got := frames(l...); got != want {
			t.Fatal("Tick answers", got)
		}
		for i := range l {
			spoil(l[i].Text)
			for k := i + 1; k < len(l); k++ {
				if string(l[k].Text) != string(waits[k]) {
					t.Fatal("two texts of one answer share memory")
				}
			}
		}
		spoilAll(l)
	}
	for _, b := range waits {
		spoil(b)
	}
	clear(waits[:cap(waits)])
	if got := frames(p.e.Tick()...); got != want {
		t.Fatal("Tick answers", got, "behind a spoilt Window")
	}
	if p.e.Waiting() != 4 {
		t.Fatal("Waiting is", p.e.Waiting())
	}
}

// R3: what is heard stays as it is, spare room and lists that don't count too, and what is told of it is memory of its own.
func TestHeardIsCopied(t *testing.T) {
	for kind := range 14 {
		p := inState(t, "open")
		room := []byte("0123456789")
		f := full(kind)
		f.Text = room[2:5]
		before := fmt.Sprint(f, string(room))
		w := p.e.Hear(f, next)
		if (kind == api.Data) != w.Came || w.Came && string(w.Text) != "234" {
			t.Fatal(kind, "Hear answers", w)
		}
		_ = append(w.Text, "xyz"...)
		spoil(w.Text)
		spoilAll(w.Out)
		if got := fmt.Sprint(f, string(room)); got != before {
			t.Fatal(kind, "what was heard is now", got)
		}
		w = p.e.Hear(data(peer, mine, 2, "next"), next)
		told := tells(p.e)
		spoil(room)
		spoilAll([]api.Frame{f})
		if kind != api.Data && w.Came || kind == api.Data && string(w.Text) != "next" || tells(p.e) != told {
			t.Fatal(kind, "behind it Hear answers", w)
		}
	}
}

// R3: greetings are new each time.
func TestGreetingsAreNew(t *testing.T) {
	p := newPair(me)
	spoilAll(p.e.Rise(mine))
	for range 3 {
		l := p.e.Tick()
		if got := frames(l...); got != frames(greeting(mine, zero, me)) {
			t.Fatal("Tick answers", got)
		}
		spoilAll(l)
	}
	spoilAll(p.e.Hear(greeting(peer, zero, you), next).Out)
	if got := frames(p.e.Tick()...); got != frames(greeting(mine, peer, me)) {
		t.Fatal("Tick answers", got)
	}
}

// R2: the same calls have the same answers, and ends are nothing to each other.
func TestTwoEnds(t *testing.T) {
	r := rand.New(rand.NewSource(92))
	for range 20 {
		one, two, other := newPair(me), newPair(me), newPair(you)
		for range 200 {
			a := anAsk(r, one.m)
			one.do(t, a)
			other.do(t, anAsk(r, other.m))
			two.do(t, a)
			if got, want := tells(one.e), tells(two.e); got != want {
				t.Fatal("two ends of one script tell", got, want)
			}
		}
	}
}

// R2: what is told alone changes nothing, and nothing that is asked in vain does.
func TestTellingChangesNothing(t *testing.T) {
	for name, asks := range ways() {
		p := stateOf(t, asks)
		want := tells(p.e)
		for range 50 {
			p.e.Tick()
			if got := tells(p.e); got != want {
				t.Fatal(name, "tells", got, "it was", want)
			}
		}
		p.do(t, probe()...)
	}
}

// P9.1: the frames that an end answers are right, and can be laid as bytes, as long as what it is given is.
func TestFramesAreRight(t *testing.T) {
	for name, asks := range ways() {
		p := stateOf(t, asks)
		l := p.e.Tick()
		l = append(l, p.e.Hear(greeting(peer, zero, you), next).Out...)
		l = append(l, p.e.Hear(data(peer, mine, 4, "d"), next).Out...)
		for _, f := range l {
			b, err := frame.Encode(f)
			if err != api.OK {
				t.Fatal(name, f, "can't be laid:", err)
			}
			if g, err := frame.Decode(b); err != api.OK || fmt.Sprint(g) != fmt.Sprint(f) {
				t.Fatal(name, f, "is laid as", g, err)
			}
		}
	}
}
