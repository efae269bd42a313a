package hello_test

import (
	"math/rand"
	"strconv"
	"testing"

	"annulet/api"
	"annulet/frame"
	"annulet/hello"
	"annulet/pipe"
)

// Two ends, and what is under way between them, as bytes in pipes.

// session is the two numbers of a pair: that of the end itself ahead.
type session struct{ mine, peer api.Num }

// side is an end, what goes from it, and all that was sent at it and came at it, by its pair.
type side struct {
	id   api.ID
	e    *hello.End
	out  *pipe.Pipe
	last api.Num // the last number that it took
	sent map[session][]string
	came map[session][]string
}

// link is both sides.
type link struct {
	sides [2]*side
	texts int
	died  int
	ends  int // how many sessions opened
}

func newLink() *link {
	l := &link{}
	for i := range l.sides {
		id := api.ID{byte(i + 1)}
		l.sides[i] = &side{id: id, e: hello.New(id), out: &pipe.Pipe{}, sent: map[session][]string{}, came: map[session][]string{}}
	}
	return l
}

// fresh is a number that is greater than all that the side took.
func (s *side) fresh(begin bool) api.Num {
	s.last.N++
	if begin {
		s.last = api.Num{Inc: s.last.Inc + 1, N: 0}
	}
	if s.last == (api.Num{}) {
		s.last.N = 1
	}
	return s.last
}

// session is the pair that the side is in.
func (s *side) session() session {
	mine, peer := s.e.Pair()
	return session{mine, peer}
}

// say puts frames under way; false: one was lost.
func (s *side) say(t *testing.T, l ...api.Frame) bool {
	t.Helper()
	all := true
	for _, f := range l {
		b, err := frame.Encode(f)
		if err != api.OK {
			t.Fatal("an end says", f)
		}
		all = s.out.Put(b) && all
	}
	return all
}

// send sends a text that is sent nowhere else.
func (l *link) send(t *testing.T, i int) {
	t.Helper()
	s := l.sides[i]
	text := strconv.Itoa(l.texts)
	f, err := s.e.Send([]byte(text))
	if _, open := s.e.Open(); open != (err == api.OK) {
		t.Fatal("Send answers", err)
	}
	if err == api.OK {
		l.texts++
		s.sent[s.session()] = append(s.sent[s.session()], text)
		s.say(t, f)
	}
}

// arrive lets the frame of a number, from side i, come at the other one.
func (l *link) arrive(t *testing.T, i, n int) bool {
	t.Helper()
	b, ok := l.sides[i].out.Take(n)
	if !ok {
		return true
	}
	f, err := frame.Decode(b)
	if err != api.OK {
		t.Fatal("Decode answers", err)
	}
	s := l.sides[1-i]
	next := api.Num{Inc: s.last.Inc, N: s.last.N + 1}
	w := s.e.Hear(f, next)
	if w.Died {
		l.died++
	}
	if w.Opened {
		l.ends++
	}
	if mine, _ := s.e.Pair(); mine == next {
		s.last = next
	}
	if w.Came {
		s.came[s.session()] = append(s.came[s.session()], string(w.Text))
	}
	return s.say(t, w.Out...)
}

// holds says what P9.2 says, of what has happened so far.
func (l *link) holds(t *testing.T) {
	t.Helper()
	for i, s := range l.sides {
		for at, came := range s.came {
			sent := l.sides[1-i].sent[session{at.peer, at.mine}]
			if len(came) > len(sent) {
				t.Fatal("at", i, "in", at, "came", came, "of", sent)
			}
			for k := range came {
				if came[k] != sent[k] {
					t.Fatal("at", i, "in", at, "came", came, "of", sent)
				}
			}
		}
	}
}

// arrived is how many texts came.
func (l *link) arrived() int {
	n := 0
	for _, s := range l.sides {
		for _, came := range s.came {
			n += len(came)
		}
	}
	return n
}

// together says whether both are open, with one another.
func (l *link) together() bool {
	a, b := l.sides[0], l.sides[1]
	toB, openA := a.e.Open()
	toA, openB := b.e.Open()
	at := a.session()
	return openA && openB && toB == b.id && toA == a.id && b.session() == session{at.peer, at.mine}
}

// steps are what may happen at one side.
const (
	rises = iota
	falls
	ticks
	sendsText
	first  // what is under way from it longest arrives
	last   // the newest arrives
	loses  // the first is lost
	twice  // the first comes once more
	crash  // it falls, and rises as a new beginning
	nSteps // how many there are
)

// step lets one thing happen at a side.
func (l *link) step(t *testing.T, i, what int) {
	t.Helper()
	s := l.sides[i]
	switch what {
	case rises:
		if !s.e.Up() {
			s.say(t, s.e.Rise(s.fresh(false))...)
		}
	case falls:
		s.e.Fall()
	case ticks:
		s.say(t, s.e.Tick()...)
	case sendsText:
		l.send(t, i)
	case first:
		l.arrive(t, i, 0)
	case last:
		l.arrive(t, i, s.out.Len()-1)
	case loses:
		s.out.Take(0)
	case twice:
		s.out.Twice(0)
	case crash:
		s.e.Fall()
		s.say(t, s.e.Rise(s.fresh(true))...)
	}
}

// wild lets anything happen anywhere; the calmer it is, the less falls and is lost.
func (l *link) wild(t *testing.T, r *rand.Rand, steps, calm int) {
	t.Helper()
	for range steps {
		i := r.Intn(2)
		s := l.sides[i]
		switch c := r.Intn(24 + 8*calm); {
		case c < 2:
			l.step(t, i, rises)
		case c < 3:
			l.step(t, i, falls)
		case c < 4:
			l.step(t, i, crash)
		case c < 7:
			l.step(t, i, ticks)
		case c < 10:
			l.send(t, i)
		case c < 12:
			s.out.Take(r.Int())
		case c < 16:
			s.out.Twice(r.Int())
		default:
			if s.out.Len() > 0 {
				l.arrive(t, i, r.Intn(s.out.Len()))
			}
		}
		l.holds(t)
	}
}

// P9.2: pipes lose, double and turn what they will, and ends fall and rise.
func TestSessions(t *testing.T) {
	r := rand.New(rand.NewSource(9092))
	texts, arrived, died, ends := 0, 0, 0, 0
	for k := range 600 {
		l := newLink()
		l.wild(t, r, 400, k%8)
		texts, arrived, died, ends = texts+l.texts, arrived+l.arrived(), died+l.died, ends+l.ends
	}
	if texts < 5000 || arrived < 3000 || died < 500 || ends < 2000 {
		t.Error("too little happens:", texts, "texts,", arrived, "came,", died, "died,", ends, "opened")
	}
}

// P9.2, P9.3: all short stories of two ends, from a link that is new, and from one that is open with a text on its way each way; behind each the two come together.
func TestShortStories(t *testing.T) {
	begin := []int{}
	open := []int{rises, nSteps + rises, first, nSteps + first, first, nSteps + first, first, nSteps + first, sendsText, nSteps + sendsText}
	for _, start := range [][]int{begin, open} {
		depth := 4
		story := make([]int, depth)
		// The two sides are alike, so that the first step is one of side 0.
		for n := range nSteps * power(2*nSteps, depth-1) {
			for k := range story {
				story[depth-1-k] = n % (2 * nSteps)
				n /= 2 * nSteps
			}
			l := newLink()
			for _, what := range append(append([]int{}, start...), story...) {
				l.step(t, what/nSteps, what%nSteps)
			}
			l.holds(t)
			if !l.comeTogether(t, nil) {
				t.Fatal("a pipe is full")
			}
		}
	}
}

func power(b, e int) int {
	n := 1
	for range e {
		n *= b
	}
	return n
}

// comeTogether raises who is down, lets both tick once and all arrive, in the order of r (nil: the oldest first), and says what P9.3 says; then all that waits comes. False: a pipe had no room, so that something was lost.
func (l *link) comeTogether(t *testing.T, r *rand.Rand) bool {
	t.Helper()
	for _, s := range l.sides {
		if !s.e.Up() && !s.say(t, s.e.Rise(s.fresh(false))...) {
			return false
		}
	}
	if !l.settle(t, r) {
		return false
	}
	if !l.together() {
		t.Fatal("not together:", l.sides[0].session(), l.sides[1].session())
	}
	l.holds(t)
	at := l.sides[0].session()
	died := l.died
	for l.waiting() > 0 {
		before := l.waiting()
		if !l.settle(t, nil) {
			return false
		}
		if l.waiting() == before {
			t.Fatal("nothing of what waits comes")
		}
	}
	if !l.together() || l.sides[0].session() != at || l.died != died {
		t.Fatal("together no more")
	}
	l.holds(t)
	for i, s := range l.sides {
		here := s.session()
		if sent, came := len(s.sent[here]), len(l.sides[1-i].came[session{here.peer, here.mine}]); sent != came {
			t.Fatal("of", sent, "texts", came, "came")
		}
	}
	return true
}

// waiting is how many texts wait.
func (l *link) waiting() int { return l.sides[0].e.Waiting() + l.sides[1].e.Waiting() }

// settle lets both tick once, at any time, and all arrive; false: a pipe had no room, so that something was lost.
func (l *link) settle(t *testing.T, r *rand.Rand) bool {
	t.Helper()
	ticked, doubles := [2]bool{}, 30
	for n := 0; ; n++ {
		if n > 10000 {
			t.Fatal("what is under way never ends")
		}
		i := n % 2
		if r != nil {
			i = r.Intn(2)
		}
		s := l.sides[i]
		if !ticked[i] && (r == nil || s.out.Len() == 0 || r.Intn(20) == 0) {
			ticked[i] = true
			if !s.say(t, s.e.Tick()...) {
				return false
			}
		}
		which := 0
		if r != nil && s.out.Len() > 0 {
			which = r.Intn(s.out.Len())
			if r.Intn(10) == 0 && doubles > 0 && s.out.Len() < 100 {
				doubles--
				s.out.Twice(which)
			}
		}
		if !l.arrive(t, i, which) {
			return false
		}
		if ticked[0] && ticked[1] && l.sides[0].out.Len()+l.sides[1].out.Len() == 0 {
			return true
		}
	}
}

// P9.3: two ends in any state, with anything under way, that tick once and hear all: in any order, and some of it twice.
func TestComingTogether(t *testing.T) {
	r := rand.New(rand.NewSource(9093))
	done := 0
	for k := range 6000 {
		l := newLink()
		l.wild(t, r, r.Intn(120), k%8)
		some := l.sides[0].out.Len()+l.sides[1].out.Len() > 0
		if l.comeTogether(t, r) && some {
			done++
		}
	}
	if done < 2000 {
		t.Error("something was under way", done, "times alone")
	}
}

// P9.3: whatever is under way from earlier sessions: both fell and rose many times, and nothing of it has arrived, or ever again.
func TestEarlierSessions(t *testing.T) {
	r := rand.New(rand.NewSource(9094))
	for times := range 40 {
		l := newLink()
		for range times {
			for i := range 2 {
				l.step(t, i, crash)
				l.step(t, i, ticks)
			}
			for range r.Intn(4) {
				l.step(t, r.Intn(2), twice)
				l.step(t, r.Intn(2), last)
				l.step(t, r.Intn(2), sendsText)
			}
		}
		if !l.comeTogether(t, r) {
			t.Error("a pipe is full")
		}
	}
}

// P9.2, by hand: a text of a session that died is on its way still, and doesn't come in the next one.
func TestTextOfADeadSession(t *testing.T) {
	l := newLink()
	a, b := l.sides[0], l.sides[1]
	l.step(t, 0, rises)
	l.step(t, 1, rises)
	l.settle(t, nil)
	if !l.together() {
		t.Fatal("not together")
	}
	l.send(t, 0)
	late, _ := a.out.Take(0)
	old := a.session()
	l.step(t, 1, crash)
	l.settle(t, nil)
	if !l.together() || l.died != 1 || a.session().mine == old.mine || a.e.Waiting() != 0 {
		t.Fatal("the session didn't die:", l.died, old, a.session(), a.e.Waiting())
	}
	l.send(t, 0)
	a.out.Put(late)
	l.arrive(t, 0, 1)
	if l.arrived() != 0 {
		t.Fatal("a text of a session that died came")
	}
	l.arrive(t, 0, 0)
	if l.arrived() != 1 || b.came[b.session()][0] != "1" {
		t.Fatal("came", b.came)
	}
	l.holds(t)
}
