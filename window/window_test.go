package window_test

import (
	"bytes"
	"math"
	"math/rand"
	"strconv"
	"testing"

	"annulet/api"
	"annulet/window"
)

// What the chapter says of a window, told a second time: lists that are kept beside it, of all that was sent and of all numbers that were taken; a text's number is its place, from 1 on, looked for one by one.

// told is what was sent, which of it waits still, and what came.
type told struct {
	sent  []string
	waits []bool
	taken []int64
}

func (m *told) Send(s string) int64 {
	m.sent, m.waits = append(m.sent, s), append(m.waits, true)
	return int64(len(m.sent))
}

func (m *told) Waits() (int64, []string) {
	first, l := int64(len(m.sent)+1), []string(nil)
	for i := len(m.sent) - 1; i >= 0; i-- {
		if m.waits[i] {
			first, l = int64(i+1), append([]string{m.sent[i]}, l...)
		}
	}
	return first, l
}

func (m *told) Acked(n int64) int {
	count := 0
	for i := range m.sent {
		if int64(i+1) != n || !m.waits[i] {
			continue
		}
		for k := 0; k <= i; k++ {
			if m.waits[k] {
				m.waits[k] = false
				count++
			}
		}
	}
	return count
}

func (m *told) Came(n int64) bool {
	due := int64(1)
	for range m.taken {
		due++
	}
	if n != due {
		return false
	}
	m.taken = append(m.taken, n)
	return true
}

// same holds all that a window tells against a number, a list and a count.
func same(t *testing.T, what string, w *window.Window, first int64, want []string, got int64) {
	t.Helper()
	n, l := w.Waits()
	if n != first {
		t.Fatal(what, "Waits begins at", n, "wanted", first)
	}
	if len(l) != len(want) {
		t.Fatal(what, "Waits has", len(l), "wanted", len(want))
	}
	for i, b := range l {
		if string(b) != want[i] {
			t.Fatalf("%s: Waits has %q at %d, wanted %q", what, b, i, want[i])
		}
	}
	if w.Got() != got {
		t.Fatal(what, "Got is", w.Got(), "wanted", got)
	}
}

// ask is one call.
type ask struct {
	what string // Send, Acked, Came
	n    int64
	text string
}

// do asks a window and its lists the same, and holds the answers, and all that is told behind the call, against each other.
func do(t *testing.T, w *window.Window, m *told, a ask) {
	t.Helper()
	switch a.what {
	case "Send":
		n, e := w.Send([]byte(a.text))
		if want := m.Send(a.text); n != want || e != api.OK {
			t.Fatal(a, "answers", n, e, "wanted", want)
		}
	case "Acked":
		if got, want := w.Acked(a.n), m.Acked(a.n); got != want {
			t.Fatal(a, "answers", got, "wanted", want)
		}
	case "Came":
		if got, want := w.Came(a.n), m.Came(a.n); got != want {
			t.Fatal(a, "answers", got, "wanted", want)
		}
	}
	first, l := m.Waits()
	same(t, a.what, w, first, l, int64(len(m.taken)))
}

// names are n texts, all different.
func names(n int) []string {
	var l []string
	for i := range n {
		l = append(l, "t"+strconv.Itoa(i+1))
	}
	return l
}

// of is a window at which these were sent, the first known ones of them acknowledged one by one, and got came.
func of(t *testing.T, l []string, known, got int) *window.Window {
	t.Helper()
	w := window.New()
	for i, s := range l {
		if n, e := w.Send([]byte(s)); n != int64(i+1) || e != api.OK {
			t.Fatal("Send", i, "answers", n, e)
		}
	}
	for i := range known {
		if n := w.Acked(int64(i + 1)); n != 1 {
			t.Fatal("Acked", i+1, "answers", n)
		}
	}
	for i := range got {
		if !w.Came(int64(i + 1)) {
			t.Fatal("Came", i+1, "answers false")
		}
	}
	return w
}

// numbers are those at which a sign, a width or a bound could be mistaken, beside those that are near to one of these.
func numbers(near ...int) []int64 {
	l := []int64{math.MinInt64, math.MinInt64 + 1, math.MinInt64 + 2, math.MaxInt64, math.MaxInt64 - 1, math.MinInt32, math.MaxInt32, math.MinInt32 - 1, math.MaxInt32 + 1, 1 << 32, 1<<32 + 1, 1<<32 + 2, -1 << 32, 1<<32 - 1, -3, -2, -1, 0, 1, 2, 3}
	for _, n := range near {
		for k := -2; k <= 2; k++ {
			l = append(l, int64(n+k), -int64(n+k), int64(n+k)+1<<32, int64(n+k)+1<<62, int64(n+k)+math.MinInt64)
		}
	}
	return l
}

// P8.1: the chapter's example.
func TestExample(t *testing.T) {
	w := window.New()
	a, ea := w.Send([]byte("a"))
	b, eb := w.Send([]byte("b"))
	if a != 1 || b != 2 || ea != api.OK || eb != api.OK {
		t.Error("Send answers", a, ea, b, eb)
	}
	for i, c := range []struct {
		n    int64
		want bool
	}{{2, false}, {1, true}, {1, false}} {
		if w.Came(c.n) != c.want {
			t.Error("Came", c.n, "as number", i, "answers", !c.want)
		}
	}
	if n := w.Acked(1); n != 1 {
		t.Error("Acked(1) answers", n)
	}
	same(t, "Acked", w, 2, []string{"b"}, 1)
	if n := w.Acked(1); n != 0 {
		t.Error("Acked(1) answers", n)
	}
	same(t, "Acked again", w, 2, []string{"b"}, 1)
}

// P8.1: a new window, and whatever call comes first.
func TestNew(t *testing.T) {
	same(t, "new", window.New(), 1, nil, 0)
	for _, what := range []string{"Send", "Acked", "Came"} {
		for _, n := range numbers() {
			w, m := window.New(), &told{}
			do(t, w, m, ask{what, n, "a"})
			do(t, w, m, ask{"Send", 0, "b"})
			do(t, w, m, ask{"Came", 1, ""})
			do(t, w, m, ask{"Acked", 1, ""})
		}
	}
}

// P8.1: acknowledgements of all numbers that could be mistaken, for up to nine texts, of which any number is known already.
func TestAckedNumbers(t *testing.T) {
	for sent := range 10 {
		l := names(sent)
		for known := range sent + 1 {
			for _, n := range numbers(known, sent) {
				w, count := of(t, l, known, 2), 0
				if n > int64(known) && n <= int64(sent) {
					count = int(n) - known
				}
				for _, want := range []int{count, 0} {
					if got := w.Acked(n); got != want {
						t.Fatal("Acked", n, "of", sent, "sent,", known, "known, answers", got, "wanted", want)
					}
					left := known + count
					same(t, "Acked", w, int64(left+1), l[left:], 2)
				}
			}
		}
	}
}

// P8.1: acknowledgements worked out by hand, of the texts 1 to 5 of which 3 to 5 wait.
func TestAckedByHand(t *testing.T) {
	for _, c := range []struct {
		n     int64
		known int
		first int64
		left  []string
	}{
		{math.MinInt64, 0, 3, []string{"t3", "t4", "t5"}}, {-1, 0, 3, []string{"t3", "t4", "t5"}}, {0, 0, 3, []string{"t3", "t4", "t5"}},
		{1, 0, 3, []string{"t3", "t4", "t5"}}, {2, 0, 3, []string{"t3", "t4", "t5"}},
		{3, 1, 4, []string{"t4", "t5"}}, {4, 2, 5, []string{"t5"}}, {5, 3, 6, nil},
		{6, 0, 3, []string{"t3", "t4", "t5"}}, {7, 0, 3, []string{"t3", "t4", "t5"}}, {math.MaxInt64, 0, 3, []string{"t3", "t4", "t5"}},
	} {
		w := of(t, names(5), 0, 0)
		if n := w.Acked(2); n != 2 {
			t.Fatal("Acked(2) answers", n)
		}
		if n := w.Acked(c.n); n != c.known {
			t.Error("Acked", c.n, "answers", n, "wanted", c.known)
		}
		same(t, "Acked", w, c.first, c.left, 0)
		if n, e := w.Send([]byte("new")); n != 6 || e != api.OK {
			t.Error("Send behind it answers", n, e)
		}
		same(t, "Send", w, c.first, append(append([]string{}, c.left...), "new"), 0)
	}
}

// P8.1: comings of all numbers that could be mistaken, whatever came and was sent: the due one alone is taken, and once.
func TestCameNumbers(t *testing.T) {
	for got := range 10 {
		for _, sent := range []int{0, 1, 12} {
			for _, n := range numbers(got, sent) {
				w := of(t, names(sent), sent/2, got)
				due := n == int64(got)+1
				if w.Came(n) != due {
					t.Fatal("Came", n, "behind", got, "answers", !due)
				}
				came := got
				if due {
					came++
				}
				same(t, "Came", w, int64(sent/2+1), names(sent)[sent/2:], int64(came))
				if w.Came(n) {
					t.Fatal("Came", n, "answers true twice")
				}
				same(t, "Came twice", w, int64(sent/2+1), names(sent)[sent/2:], int64(came))
			}
		}
	}
}

// P8.1: what is sent and what comes are nothing to each other.
func TestTwoSides(t *testing.T) {
	w := window.New()
	for n := range int64(5) {
		if !w.Came(n + 1) {
			t.Fatal("Came", n+1, "answers false, with nothing sent")
		}
	}
	same(t, "Came", w, 1, nil, 5)
	for n := range int64(6) {
		if w.Acked(n) != 0 {
			t.Fatal("Acked", n, "of what was never sent")
		}
	}
	for k, s := range names(3) {
		if n, _ := w.Send([]byte(s)); n != int64(k+1) {
			t.Fatal("Send answers", n)
		}
	}
	if n := w.Acked(5); n != 0 {
		t.Fatal("Acked of Got answers", n)
	}
	if n := w.Acked(3); n != 3 {
		t.Fatal("Acked(3) answers", n)
	}
	same(t, "Acked", w, 4, nil, 5)
	if w.Came(4) || !w.Came(6) {
		t.Fatal("an acknowledgement changed what is due")
	}
}

// P8.1: all that was sent is known: the number is the next one's, and it goes on from there.
func TestNoneWaits(t *testing.T) {
	w, m := window.New(), &told{}
	for n := int64(1); n <= 20; n++ {
		do(t, w, m, ask{"Send", 0, "x" + strconv.Itoa(int(n))})
		do(t, w, m, ask{"Acked", n, ""})
		same(t, "none waits", w, n+1, nil, 0)
		for _, k := range numbers(int(n)) {
			do(t, w, m, ask{"Acked", k, ""})
		}
	}
}

// P8.1: no bound is named: more wait than a session or a pipe has room for, and longer texts than a frame's.
func TestMany(t *testing.T) {
	l := names(1000)
	w := of(t, l, 0, 0)
	same(t, "many", w, 1, l, 0)
	if n := w.Acked(999); n != 999 {
		t.Fatal("Acked(999) answers", n)
	}
	same(t, "many", w, 1000, l[999:], 0)
	const more = 200000
	for k := range more {
		if n, e := w.Send([]byte{byte(k)}); n != int64(1001+k) || e != api.OK {
			t.Fatal("Send answers", n, e)
		}
		if !w.Came(int64(k + 1)) {
			t.Fatal("Came", k+1, "answers false")
		}
	}
	for k := range more {
		if n := w.Acked(int64(1000 + k)); n != 1 {
			t.Fatal("Acked", 1000+k, "answers", n)
		}
	}
	last := more - 1
	same(t, "many", w, 1000+more, []string{string([]byte{byte(last)})}, more)
}

// P8.1: a text of no bytes, nil or not, counts as any other.
func TestNoBytes(t *testing.T) {
	for _, b := range [][]byte{nil, {}, make([]byte, 0, 8)} {
		w := of(t, []string{"a"}, 0, 0)
		for want := int64(2); want <= 3; want++ {
			if n, e := w.Send(b); n != want || e != api.OK {
				t.Fatal("Send of no bytes answers", n, e)
			}
		}
		same(t, "no bytes", w, 1, []string{"a", "", ""}, 0)
		if n := w.Acked(2); n != 2 {
			t.Fatal("Acked answers", n)
		}
		same(t, "no bytes", w, 3, []string{""}, 0)
		if n := w.Acked(3); n != 1 {
			t.Fatal("Acked answers", n)
		}
		same(t, "no bytes", w, 4, nil, 0)
	}
}

// P8.1: bytes are bytes, and there may be any number of them.
func TestAnyBytes(t *testing.T) {
	every := make([]byte, 256)
	for i := range every {
		every[i] = byte(i)
	}
	long := string(bytes.Repeat(every, 64))
	l := []string{"\x00", "\x00\x00", "\xff", string(every), long[:api.MaxFrame-1], long[:api.MaxFrame], long[:api.MaxFrame+1], long}
	w := of(t, l, 0, 0)
	for known := range l {
		same(t, "any bytes", w, int64(known+1), l[known:], 0)
		if n := w.Acked(int64(known + 1)); n != 1 {
			t.Fatal("Acked answers", n)
		}
	}
}

// P8.1: all scripts of six calls, out of eight.
func TestShortScripts(t *testing.T) {
	asks := []ask{{"Send", 0, "a"}, {"Send", 0, "b"}, {"Acked", 1, ""}, {"Acked", 2, ""}, {"Acked", 3, ""}, {"Came", 1, ""}, {"Came", 2, ""}, {"Came", 3, ""}}
	for k := range 1 << 18 {
		w, m := window.New(), &told{}
		for n := range 6 {
			do(t, w, m, asks[k>>(3*n)&7])
		}
	}
}

// P8.1: long scripts, of calls in any order.
func TestScripts(t *testing.T) {
	r := rand.New(rand.NewSource(81))
	for k := range 200 {
		w, m := window.New(), &told{}
		for range 300 {
			do(t, w, m, anAsk(r, k%5, m))
		}
	}
}

// anAsk is the more often one that sends the greater fill is; its number is mostly near to one that matters.
func anAsk(r *rand.Rand, fill int, m *told) ask {
	first, l := m.Waits()
	near := []int64{first, first + int64(len(l)), int64(len(m.taken)) + 1, first + int64(r.Intn(len(l)+1))}
	n := near[r.Intn(4)] + int64(r.Intn(5)-2)
	switch r.Intn(8) {
	case 0:
		n = int64(r.Uint64())
	case 1:
		edges := numbers(int(first), len(m.taken))
		n = edges[r.Intn(len(edges))]
	}
	switch c := r.Intn(4 + fill); {
	case c < 1:
		return ask{"Acked", n, ""}
	case c < 3:
		return ask{"Came", n, ""}
	}
	return ask{"Send", 0, string("abcdefgh"[r.Intn(8)]) + string(make([]byte, r.Intn(3)))}
}

// Two ends, and all that was ever said between them: none of it is ever used up, so that each may come late, twice or never.

// line is what goes from one end to the other, and the acknowledgements that come back.
type line struct {
	from, to *window.Window
	sent     []string
	said     []saying
	acks     []int64
	taken    []string
	largest  int64 // of the acknowledgements that came back
}

// saying is a text with its number.
type saying struct {
	n    int64
	text string
}

// send sends a text at the one end.
func (l *line) send(t *testing.T, s string) {
	t.Helper()
	l.sent = append(l.sent, s)
	if n, e := l.from.Send([]byte(s)); n != int64(len(l.sent)) || e != api.OK {
		t.Fatal("Send answers", n, e)
	}
}

// say says all that waits.
func (l *line) say() {
	first, texts := l.from.Waits()
	for i, b := range texts {
		l.said = append(l.said, saying{first + int64(i), string(b)})
	}
}

// come lets a saying come at the other end.
func (l *line) come(s saying) {
	if l.to.Came(s.n) {
		l.taken = append(l.taken, s.text)
	}
}

// ack acknowledges what came till now.
func (l *line) ack() { l.acks = append(l.acks, l.to.Got()) }

// back lets an acknowledgement come back.
func (l *line) back(n int64) {
	l.from.Acked(n)
	l.largest = max(l.largest, n)
}

// holds says what P8.2 says, of what has happened so far.
func (l *line) holds(t *testing.T) {
	t.Helper()
	if len(l.taken) > len(l.sent) || l.to.Got() != int64(len(l.taken)) {
		t.Fatal("of", len(l.sent), "texts", len(l.taken), "were taken, Got is", l.to.Got())
	}
	for i, s := range l.taken {
		if s != l.sent[i] {
			t.Fatalf("as number %d %q was taken, %q was sent", i+1, s, l.sent[i])
		}
	}
	first, waits := l.from.Waits()
	if first != l.largest+1 || int(first)-1+len(waits) != len(l.sent) {
		t.Fatal("of", len(l.sent), "texts", len(waits), "wait, from", first, "on;", l.largest, "are known")
	}
	if len(l.sent)-len(waits) > len(l.taken) {
		t.Fatal(len(waits), "wait, but", len(l.sent)-len(l.taken), "didn't come")
	}
	for i, b := range waits {
		if want := l.sent[len(l.sent)-len(waits)+i]; string(b) != want {
			t.Fatalf("%q waits, wanted %q", b, want)
		}
	}
}

// P8.2: both ends send, and all that was said since the beginning comes in any order, any number of times or never.
func TestOnceAndInOrder(t *testing.T) {
	r := rand.New(rand.NewSource(82))
	for k := range 300 {
		a, b := window.New(), window.New()
		lines := []*line{{from: a, to: b}, {from: b, to: a}}
		for i := range 400 {
			l := lines[r.Intn(2)]
			happen(t, r, l, k, i)
			lines[0].holds(t)
			lines[1].holds(t)
		}
		for _, l := range lines {
			settle(t, l)
		}
	}
}

// happen lets one thing happen on a line: the greater k is modulo 4, the newer is what comes.
func happen(t *testing.T, r *rand.Rand, l *line, k, i int) {
	t.Helper()
	switch r.Intn(6) {
	case 0:
		l.send(t, strconv.Itoa(i))
	case 1:
		l.say()
	case 2, 3:
		if n := len(l.said); n > 0 {
			l.come(l.said[late(r, n, k%4)])
		}
	case 4:
		l.ack()
	case 5:
		if n := len(l.acks); n > 0 {
			l.back(l.acks[late(r, n, k%4)])
		}
	}
}

// late is a place among n: anywhere, or one of the newest few.
func late(r *rand.Rand, n, k int) int {
	if k == 0 {
		return r.Intn(n)
	}
	return max(0, n-1-r.Intn(20/k))
}

// settle says all once more, in order, and acknowledges it: then all came, and none waits.
func settle(t *testing.T, l *line) {
	t.Helper()
	behind := len(l.said)
	l.say()
	for _, s := range l.said[behind:] {
		l.come(s)
	}
	l.ack()
	l.back(l.acks[len(l.acks)-1])
	l.holds(t)
	if _, waits := l.from.Waits(); len(waits) != 0 || len(l.taken) != len(l.sent) {
		t.Fatal("of", len(l.sent), "texts", len(l.taken), "came,", len(waits), "wait")
	}
	for _, s := range l.said {
		l.come(s)
	}
	for _, n := range l.acks {
		l.back(n)
	}
	l.holds(t)
}

// P8.2: all short stories: three texts at most, each step a text, one of them coming, or an acknowledgement of any time.
func TestShortStories(t *testing.T) {
	var tell func(steps []int)
	tell = func(steps []int) {
		l := &line{from: window.New(), to: window.New()}
		for _, s := range steps {
			switch {
			case s == 0:
				l.send(t, strconv.Itoa(len(l.sent)+1))
			case s < 4:
				l.come(saying{int64(s), strconv.Itoa(s)})
			default:
				l.back(int64(s - 4))
			}
			l.holds(t)
		}
		if len(steps) == 8 {
			return
		}
		for s := range 8 {
			if may(l, s) {
				tell(append(append([]int{}, steps...), s))
			}
		}
	}
	tell(nil)
}

// may says whether a step can happen: what comes was sent, and what is acknowledged came.
func may(l *line, s int) bool {
	switch {
	case s == 0:
		return len(l.sent) < 3
	case s < 4:
		return s <= len(l.sent)
	}
	return s-4 <= len(l.taken)
}

// R1: a nil window at every call, and again behind each.
func TestNil(t *testing.T) {
	var w *window.Window
	for _, k := range numbers(1) {
		for _, b := range [][]byte{nil, {}, []byte("a"), make([]byte, 5000)} {
			if n, e := w.Send(b); n != 0 || e != api.ErrArg {
				t.Fatal("Send answers", n, e)
			}
		}
		if n := w.Acked(k); n != 0 {
			t.Fatal("Acked answers", n)
		}
		if w.Came(k) {
			t.Fatal("Came answers true")
		}
		same(t, "nil", w, 0, nil, 0)
	}
}

// spoil changes bytes, their spare room too.
func spoil(b []byte) {
	b = b[:cap(b)]
	for i := range b {
		b[i] ^= 0xff
	}
}

// R3: what is sent stays as it is, spare room too, and what becomes of it later no window sees.
func TestHandedIn(t *testing.T) {
	room := []byte("0123456789")
	w := window.New()
	for _, b := range [][]byte{room[2:5], room[2:5], room[4:8:9], room[6:6], room[:0:0]} {
		w.Send(b)
	}
	w.Acked(1)
	_, l := w.Waits()
	for _, b := range l {
		spoil(b)
	}
	if string(room) != "0123456789" {
		t.Fatalf("what was sent is now %q", room)
	}
	spoil(room)
	same(t, "other bytes behind the call", w, 2, []string{"234", "4567", "", ""}, 0)
}

// R3: what Waits told may be changed, spare room and list too, and changes neither the window nor another answer; nor does a later call.
func TestToldIsNew(t *testing.T) {
	l := names(40)
	w := of(t, l, 0, 0)
	_, one := w.Waits()
	_, two := w.Waits()
	for i := range one {
		spoil(one[i])
		_ = append(one[i], "xyz"...)
		for k := i + 1; k < len(one); k++ {
			if string(one[k]) != l[k] {
				t.Fatal("two texts of one answer share memory")
			}
		}
	}
	clear(one[:cap(one)])
	same(t, "spoilt answers", w, 1, l, 0)
	_ = append(two, []byte("x"))
	w.Acked(3)
	w.Send([]byte("new"))
	w.Came(1)
	w.Acked(41)
	w.Send([]byte("newer"))
	for i, b := range two {
		if string(b) != l[i] {
			t.Fatal("another answer, or a later call, changed what was told")
		}
	}
	same(t, "a list that was added to", w, 42, []string{"newer"}, 1)
}

// R2: the same calls have the same answers, and windows are nothing to each other.
func TestTwoWindows(t *testing.T) {
	r := rand.New(rand.NewSource(22))
	w, v, other := window.New(), window.New(), window.New()
	m, n, o := &told{}, &told{}, &told{}
	for range 500 {
		a := anAsk(r, 1, m)
		do(t, w, m, a)
		do(t, other, o, anAsk(r, 2, o))
		do(t, v, n, a)
		first, l := n.Waits()
		same(t, "the other window", w, first, l, int64(len(n.taken)))
	}
}

// R2: what is asked and told alone changes nothing.
func TestTellingChangesNothing(t *testing.T) {
	w := of(t, []string{"a", "b", "c"}, 1, 2)
	for range 300 {
		same(t, "telling", w, 2, []string{"b", "c"}, 2)
	}
}
