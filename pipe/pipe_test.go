package pipe_test

import (
	"bytes"
	"math"
	"math/big"
	"math/rand"
	"strconv"
	"testing"

	"annulet/api"
	"annulet/pipe"
)

// What the chapter says of a pipe, told a second time: a list of texts that is kept beside it, and the frame of a number by whole-number arithmetic.

// told is what is under way, and how often each text was put, taken and lost.
type told struct {
	list             []string
	put, taken, lost map[string]int
}

func newTold() *told {
	return &told{put: map[string]int{}, taken: map[string]int{}, lost: map[string]int{}}
}

// placeOf is the place of the frame of i among n.
func placeOf(i, n int) int {
	v := big.NewInt(int64(i))
	if i < 0 {
		v.Add(v, new(big.Int).Lsh(big.NewInt(1), 64))
	}
	return int(v.Mod(v, big.NewInt(int64(n))).Int64())
}

func (m *told) Put(s string) bool {
	if len(m.list) == 256 {
		return false
	}
	m.list = append(m.list, s)
	m.put[s]++
	return true
}

func (m *told) Take(i int) (string, bool) {
	if len(m.list) == 0 {
		return "", false
	}
	at := placeOf(i, len(m.list))
	s := m.list[at]
	var left []string
	for k, x := range m.list {
		if k != at {
			left = append(left, x)
		}
	}
	m.list = left
	m.taken[s]++
	return s, true
}

func (m *told) Twice(i int) bool {
	if len(m.list) == 0 {
		return false
	}
	return m.Put(m.list[placeOf(i, len(m.list))])
}

func (m *told) Fall() int {
	n := len(m.list)
	for _, s := range m.list {
		m.lost[s]++
	}
	m.list = nil
	return n
}

// same holds all that a pipe tells against a list.
func same(t *testing.T, what string, p *pipe.Pipe, want []string) {
	t.Helper()
	if p.Len() != len(want) {
		t.Fatal(what, "Len is", p.Len(), "wanted", len(want))
	}
	all := p.All()
	if len(all) != len(want) {
		t.Fatal(what, "All has", len(all), "wanted", len(want))
	}
	for i, b := range all {
		if string(b) != want[i] {
			t.Fatalf("%s: All has %q at %d, wanted %q", what, b, i, want[i])
		}
	}
}

// names are n texts, all different.
func names(n int) []string {
	var l []string
	for i := range n {
		l = append(l, "f"+strconv.Itoa(i))
	}
	return l
}

// of is a pipe with these under way.
func of(t *testing.T, l ...string) *pipe.Pipe {
	t.Helper()
	p := &pipe.Pipe{}
	for i, s := range l {
		if !p.Put([]byte(s)) {
			t.Fatal("Put", i, "answers false")
		}
	}
	return p
}

// numbers are those at which a sign, a width or a bound could be mistaken, for n under way.
func numbers(n int) []int {
	l := []int{math.MinInt, math.MinInt + 1, math.MaxInt, math.MaxInt - 1, math.MinInt32, math.MaxInt32, math.MinInt32 - 1, math.MaxInt32 + 1, 1 << 32, -1 << 32, 1<<32 - 1, -1, -2, -3, -255, -256, -257, 255, 256, 257}
	for k := -2; k <= 2; k++ {
		l = append(l, k, n+k, -n+k, 2*n+k, n/2+k)
	}
	return l
}

// ask is one call.
type ask struct {
	what string // Put, Take, Twice, Fall
	i    int
	text string
}

// do asks a pipe and its list the same, and holds the answers, and all that is told behind the call, against each other.
func do(t *testing.T, p *pipe.Pipe, m *told, a ask) {
	t.Helper()
	switch a.what {
	case "Put":
		if got, want := p.Put([]byte(a.text)), m.Put(a.text); got != want {
			t.Fatal(a, "answers", got, "wanted", want)
		}
	case "Take":
		got, ok := p.Take(a.i)
		want, there := m.Take(a.i)
		if string(got) != want || ok != there {
			t.Fatalf("%v answers %q %v, wanted %q %v", a, got, ok, want, there)
		}
	case "Twice":
		if got, want := p.Twice(a.i), m.Twice(a.i); got != want {
			t.Fatal(a, "answers", got, "wanted", want)
		}
	case "Fall":
		if got, want := p.Fall(), m.Fall(); got != want {
			t.Fatal(a, "answers", got, "wanted", want)
		}
	}
	same(t, a.what, p, m.list)
}

// P7.1: the chapter's example.
func TestExample(t *testing.T) {
	p := of(t, "a", "b", "c")
	if b, ok := p.Take(4); string(b) != "b" || !ok {
		t.Errorf("Take(4) answers %q %v", b, ok)
	}
	same(t, "Take", p, []string{"a", "c"})
	if !p.Twice(-1) {
		t.Error("Twice(-1) answers false")
	}
	same(t, "Twice", p, []string{"a", "c", "c"})
}

// P7.1: the zero Pipe has nothing under way, and may be used, by whatever call comes first.
func TestZero(t *testing.T) {
	for _, first := range []string{"", "Put", "Take", "Twice", "Fall"} {
		var p pipe.Pipe
		m := newTold()
		same(t, "the zero Pipe", &p, nil)
		do(t, &p, m, ask{what: first, text: "a"})
		do(t, &p, m, ask{what: "Put", text: "b"})
		do(t, &p, m, ask{what: "Twice"})
		do(t, &p, m, ask{what: "Take", i: 1})
	}
}

// P7.1: the frame of every number that could be mistaken, for every number of frames that may be under way.
func TestTakeNumbers(t *testing.T) {
	l := names(256)
	for n := 1; n <= 256; n++ {
		for _, i := range numbers(n) {
			p, at := of(t, l[:n]...), placeOf(i, n)
			if b, ok := p.Take(i); string(b) != l[at] || !ok {
				t.Fatalf("Take(%d) of %d answers %q %v, wanted %q", i, n, b, ok, l[at])
			}
			same(t, "Take", p, append(append([]string{}, l[:at]...), l[at+1:n]...))
		}
	}
}

// P7.1: likewise, put once more.
func TestTwiceNumbers(t *testing.T) {
	l := names(256)
	for n := 1; n <= 255; n++ {
		for _, i := range numbers(n) {
			p, at := of(t, l[:n]...), placeOf(i, n)
			if !p.Twice(i) {
				t.Fatal("Twice", i, "of", n, "answers false")
			}
			same(t, "Twice", p, append(append([]string{}, l[:n]...), l[at]))
		}
	}
}

// P7.1: the frames of some numbers, worked out by hand: 2^64 is 1 modulo 3, 5, 15, 255 and 0 modulo 256; 2^63 is 2 modulo 3, 3 modulo 5.
func TestNumbersByHand(t *testing.T) {
	for _, c := range []struct{ i, n, want int }{
		{0, 1, 0}, {math.MinInt, 1, 0}, {math.MaxInt, 1, 0}, {-1, 1, 0},
		{-1, 2, 1}, {-2, 2, 0}, {math.MinInt, 2, 0}, {math.MaxInt, 2, 1},
		{-1, 3, 0}, {-2, 3, 2}, {-3, 3, 1}, {3, 3, 0}, {4, 3, 1}, {math.MinInt, 3, 2}, {math.MaxInt, 3, 1},
		{-1, 5, 0}, {-2, 5, 4}, {math.MinInt, 5, 3}, {math.MaxInt, 5, 2},
		{-1, 255, 0}, {-2, 255, 254}, {255, 255, 0}, {256, 255, 1},
		{-1, 256, 255}, {-256, 256, 0}, {256, 256, 0}, {math.MinInt, 256, 0}, {math.MaxInt, 256, 255},
	} {
		if b, ok := of(t, names(c.n)...).Take(c.i); string(b) != "f"+strconv.Itoa(c.want) || !ok {
			t.Errorf("Take(%d) of %d answers %q %v, wanted f%d", c.i, c.n, b, ok, c.want)
		}
	}
}

// P7.1: the first, the last and the only one are taken; the others stay in their order.
func TestTakeEnds(t *testing.T) {
	for _, c := range []struct {
		i          int
		taken      string
		have, left []string
	}{
		{0, "a", []string{"a", "b", "c"}, []string{"b", "c"}},
		{1, "b", []string{"a", "b", "c"}, []string{"a", "c"}},
		{2, "c", []string{"a", "b", "c"}, []string{"a", "b"}},
		{0, "a", []string{"a"}, nil},
	} {
		p := of(t, c.have...)
		if b, ok := p.Take(c.i); string(b) != c.taken || !ok {
			t.Errorf("Take(%d) answers %q %v", c.i, b, ok)
		}
		same(t, "Take", p, c.left)
		p.Put([]byte("d"))
		same(t, "Put behind a Take", p, append(append([]string{}, c.left...), "d"))
	}
}

// P7.1: frames leave from the front, from behind and from between till nothing is left, and a pipe that ran empty may be used again.
func TestTakeAll(t *testing.T) {
	for _, i := range []int{0, -1, 1, 100, math.MinInt, math.MaxInt} {
		p, m := &pipe.Pipe{}, newTold()
		for range 2 {
			for _, s := range names(20) {
				do(t, p, m, ask{what: "Put", text: s})
			}
			for range 21 {
				do(t, p, m, ask{what: "Take", i: i})
			}
		}
	}
}

// P7.1, R5: nothing is under way: no frame is taken, none doubled, none lost, at any number.
func TestNothing(t *testing.T) {
	fallen, taken := of(t, "a", "b"), of(t, "a")
	fallen.Fall()
	taken.Take(0)
	for _, p := range []*pipe.Pipe{{}, fallen, taken} {
		for _, i := range numbers(1) {
			if b, ok := p.Take(i); len(b) != 0 || ok {
				t.Fatalf("Take(%d) answers %q %v", i, b, ok)
			}
			if p.Twice(i) {
				t.Fatal("Twice", i, "answers true")
			}
			if n := p.Fall(); n != 0 {
				t.Fatal("Fall answers", n)
			}
			same(t, "nothing", p, nil)
		}
	}
}

// P7.1: 256 may be under way, and no more, whichever of Put and Twice brings them there; what they refuse changes nothing.
func TestFull(t *testing.T) {
	for _, last := range []string{"Put", "Twice"} {
		p, m := &pipe.Pipe{}, newTold()
		for _, s := range names(254) {
			do(t, p, m, ask{what: "Put", text: s})
		}
		for k := range 5 {
			do(t, p, m, ask{what: last, i: 100, text: "z" + strconv.Itoa(k)})
		}
		if p.Len() != 256 {
			t.Fatal(last, "to", p.Len())
		}
		for _, i := range numbers(256) {
			if p.Put([]byte("z")) || p.Put(nil) || p.Twice(i) {
				t.Fatal("a full pipe took one more")
			}
			same(t, "full", p, m.list)
		}
		full(t, p, m)
	}
}

// full asks a pipe of 256: each that leaves makes room for just one, and behind a Fall there is room for 256.
func full(t *testing.T, p *pipe.Pipe, m *told) {
	t.Helper()
	for _, back := range []string{"Put", "Twice"} {
		do(t, p, m, ask{what: "Take", i: 7})
		do(t, p, m, ask{what: back, i: -1, text: "new"})
		do(t, p, m, ask{what: "Put", text: "no"})
		do(t, p, m, ask{what: "Twice", i: 3})
		if p.Len() != 256 {
			t.Fatal("behind a Take and a", back, "there are", p.Len())
		}
	}
	do(t, p, m, ask{what: "Fall"})
	for k := range 258 {
		if p.Put([]byte{byte(k)}) != (k < 256) {
			t.Fatal("Put", k, "behind a Fall")
		}
	}
	if n := p.Fall(); n != 256 {
		t.Fatal("Fall of a full pipe answers", n)
	}
}

// P7.1: a frame of no bytes, nil or not, counts as any other.
func TestNoBytes(t *testing.T) {
	for _, b := range [][]byte{nil, {}, make([]byte, 0, 8)} {
		p := of(t, "a")
		if !p.Put(b) || !p.Twice(1) {
			t.Fatal("no bytes are not put")
		}
		same(t, "no bytes", p, []string{"a", "", ""})
		if got, ok := p.Take(2); len(got) != 0 || !ok {
			t.Fatal("Take of no bytes answers", got, ok)
		}
		same(t, "no bytes", p, []string{"a", ""})
		if n := p.Fall(); n != 2 {
			t.Fatal("Fall answers", n)
		}
	}
}

// P7.1: bytes are bytes, and there may be any number of them.
func TestAnyBytes(t *testing.T) {
	every := make([]byte, 256)
	for i := range every {
		every[i] = byte(i)
	}
	long := string(bytes.Repeat(every, 64))
	l := []string{"\x00", "\x00\x00", "\xff", string(every), long[:api.MaxFrame-1], long[:api.MaxFrame], long[:api.MaxFrame+1], long}
	p := of(t, l...)
	same(t, "any bytes", p, l)
	for range l {
		p.Twice(0)
		if b, ok := p.Take(0); string(b) != l[0] || !ok {
			t.Fatal("Take answers other bytes", len(b), ok)
		}
		l = append(l[1:], l[0])
		same(t, "any bytes", p, l)
	}
}

// P7.1: all scripts of five calls, out of eight.
func TestShortScripts(t *testing.T) {
	asks := []ask{{what: "Put", text: "a"}, {what: "Put", text: "b"}, {what: "Take"}, {what: "Take", i: 1}, {what: "Take", i: -1}, {what: "Twice"}, {what: "Twice", i: -1}, {what: "Fall"}}
	for k := range 1 << 15 {
		p, m := &pipe.Pipe{}, newTold()
		for n := range 5 {
			do(t, p, m, asks[k>>(3*n)&7])
		}
		counts(t, p, m.put, m.taken, m.lost)
	}
}

// P7.1: long scripts, some of which fill the pipe.
func TestScripts(t *testing.T) {
	r := rand.New(rand.NewSource(7))
	for k := range 300 {
		p, m := &pipe.Pipe{}, newTold()
		for range 600 {
			do(t, p, m, anAsk(r, k%6, p.Len()))
		}
		counts(t, p, m.put, m.taken, m.lost)
	}
}

// anAsk is the more often one that sends the greater fill is.
func anAsk(r *rand.Rand, fill, n int) ask {
	i := r.Intn(600) - 300
	if r.Intn(4) == 0 {
		i = int(r.Uint64())
	}
	if r.Intn(8) == 0 {
		l := numbers(n)
		i = l[r.Intn(len(l))]
	}
	switch c := r.Intn(4 + fill); {
	case r.Intn(300) == 0:
		return ask{what: "Fall"}
	case c < 2:
		return ask{what: "Take", i: i}
	case c < 4 && fill < 5:
		return ask{what: "Twice", i: i}
	case c == 4:
		return ask{what: "Twice", i: i}
	}
	return ask{what: "Put", text: string("abcdefgh"[r.Intn(8)]) + string(make([]byte, r.Intn(3)))}
}

// counts says of each text: it was put as often as it was taken, was lost and is under way still.
func counts(t *testing.T, p *pipe.Pipe, put, taken, lost map[string]int) {
	t.Helper()
	flying := map[string]int{}
	for _, b := range p.All() {
		flying[string(b)]++
	}
	for s, n := range put {
		if n != taken[s]+lost[s]+flying[s] {
			t.Fatalf("%q was put %d times, taken %d, lost %d, is under way %d", s, n, taken[s], lost[s], flying[s])
		}
	}
	for _, l := range []map[string]int{taken, lost, flying} {
		for s := range l {
			if put[s] == 0 {
				t.Fatalf("%q was never put", s)
			}
		}
	}
}

// P7.2: counted by the pipe's own answers alone: what All told ahead of a Twice or a Fall is what is put or lost there.
func TestCounts(t *testing.T) {
	r := rand.New(rand.NewSource(72))
	for k := range 200 {
		p := &pipe.Pipe{}
		put, taken, lost := map[string]int{}, map[string]int{}, map[string]int{}
		for range 400 {
			a := anAsk(r, k%6, p.Len())
			ahead := p.All()
			switch a.what {
			case "Put":
				if p.Put([]byte(a.text)) {
					put[a.text]++
				}
			case "Take":
				if b, ok := p.Take(a.i); ok {
					taken[string(b)]++
				}
			case "Twice":
				if p.Twice(a.i) {
					put[string(ahead[placeOf(a.i, len(ahead))])]++
				}
			case "Fall":
				if n := p.Fall(); n != len(ahead) {
					t.Fatal("Fall answers", n, "wanted", len(ahead))
				}
				for _, b := range ahead {
					lost[string(b)]++
				}
			}
			counts(t, p, put, taken, lost)
		}
		drain(t, p, put, taken, lost)
	}
}

// drain takes all that is left: then each frame was taken or lost as often as it was put.
func drain(t *testing.T, p *pipe.Pipe, put, taken, lost map[string]int) {
	t.Helper()
	for p.Len() > 0 {
		b, ok := p.Take(p.Len() * 3)
		if !ok {
			t.Fatal("Take answers false while", p.Len(), "are under way")
		}
		taken[string(b)]++
	}
	counts(t, p, put, taken, lost)
	for s, n := range put {
		if n != taken[s]+lost[s] {
			t.Fatalf("%q was put %d times, taken %d, lost %d", s, n, taken[s], lost[s])
		}
	}
}

// R1: a nil pipe at every call, and again behind each.
func TestNil(t *testing.T) {
	var p *pipe.Pipe
	for _, i := range numbers(1) {
		for _, b := range [][]byte{nil, {}, []byte("a"), make([]byte, 5000)} {
			if p.Put(b) {
				t.Fatal("Put answers true")
			}
		}
		if b, ok := p.Take(i); len(b) != 0 || ok {
			t.Fatal("Take answers", b, ok)
		}
		if p.Twice(i) {
			t.Fatal("Twice answers true")
		}
		if n := p.Fall(); n != 0 {
			t.Fatal("Fall answers", n)
		}
		same(t, "nil", p, nil)
	}
}

// spoil changes bytes, their spare room too.
func spoil(b []byte) {
	b = b[:cap(b)]
	for i := range b {
		b[i] ^= 0xff
	}
}

// R3: what is put stays as it is, spare room too, and what becomes of it later no pipe sees.
func TestHandedIn(t *testing.T) {
	room := []byte("0123456789")
	p := &pipe.Pipe{}
	for _, b := range [][]byte{room[2:5], room[2:5], room[4:8:9], room[6:6], room[:0:0]} {
		p.Put(b)
	}
	want := []string{"234", "234", "4567", "", ""}
	p.Twice(2)
	want = append(want, "4567")
	b, _ := p.Take(0)
	spoil(b)
	for _, b := range p.All() {
		spoil(b)
	}
	if string(room) != "0123456789" {
		t.Fatalf("what was put is now %q", room)
	}
	spoil(room)
	same(t, "other bytes behind the call", p, want[1:])
}

// R3: a full pipe, which keeps nothing of what it refuses, leaves that as it is.
func TestRefused(t *testing.T) {
	p, room := of(t, names(256)...), []byte("0123456789")
	if p.Put(room[:4]) || string(room) != "0123456789" {
		t.Fatalf("what was refused is now %q", room)
	}
	spoil(room)
	same(t, "refused", p, names(256))
}

// R3: what All told may be changed, spare room and list too, and changes neither the pipe nor another answer.
func TestToldIsNew(t *testing.T) {
	l := names(40)
	p := of(t, l...)
	one, two := p.All(), p.All()
	for i := range one {
		spoil(one[i])
		_ = append(one[i], "xyz"...)
		for k := i + 1; k < len(one); k++ {
			if string(one[k]) != l[k] {
				t.Fatal("two frames of one answer share memory")
			}
		}
	}
	clear(one[:cap(one)])
	for i, b := range two {
		if string(b) != l[i] {
			t.Fatal("two answers share memory")
		}
	}
	same(t, "spoilt answers", p, l)
	p.Take(0)
	p.Twice(3)
	p.Put([]byte("new"))
	for i, b := range two {
		if string(b) != l[i] {
			t.Fatal("a later call changed what was told")
		}
	}
}

// R3: what was taken may be changed, from whichever place it left, and no later call changes it.
func TestTakenIsNew(t *testing.T) {
	l := names(9)
	for at := range l {
		p := of(t, l...)
		told := p.All()
		left := append(append([]string{}, l[:at]...), l[at+1:]...)
		b, _ := p.Take(at)
		if string(told[at]) != l[at] {
			t.Fatal("a Take changed what was told")
		}
		spoil(b)
		_ = append(b, "xyz"...)
		same(t, "spoilt", p, left)
		if string(told[at]) != l[at] {
			t.Fatal("what was taken shares memory with what was told")
		}
		copy(b, "me")
		p.Put([]byte("new"))
		p.Twice(0)
		p.Fall()
		p.Put([]byte("newer"))
		if string(b) != "me" {
			t.Fatalf("a later call changed what was taken to %q", b)
		}
	}
}

// R3: the two copies that Twice leaves share nothing, whichever leaves first, and nor do copies of copies.
func TestCopiesAreNew(t *testing.T) {
	for _, first := range []int{0, 1, 2, 3} {
		p := of(t, "abc")
		p.Twice(0)
		p.Twice(1)
		p.Twice(0)
		for n := 4; n > 0; n-- {
			b, ok := p.Take(first)
			if string(b) != "abc" || !ok {
				t.Fatalf("Take answers %q %v", b, ok)
			}
			spoil(b)
			same(t, "a copy", p, []string{"abc", "abc", "abc"}[:n-1])
		}
	}
	p := of(t, "abc")
	p.Twice(0)
	all := p.All()
	spoil(all[0])
	if string(all[1]) != "abc" {
		t.Fatal("two copies share memory in what is told")
	}
	same(t, "two copies", p, []string{"abc", "abc"})
}

// R2: the same calls have the same answers, and pipes are nothing to each other.
func TestTwoPipes(t *testing.T) {
	r := rand.New(rand.NewSource(22))
	var p, q, other pipe.Pipe
	m, n, o := newTold(), newTold(), newTold()
	for range 2000 {
		a := anAsk(r, 4, p.Len())
		do(t, &p, m, a)
		do(t, &other, o, anAsk(r, 3, other.Len()))
		do(t, &q, n, a)
		same(t, "the other pipe", &p, n.list)
	}
}

// R2: what is asked and told alone changes nothing.
func TestTellingChangesNothing(t *testing.T) {
	p := of(t, "a", "b")
	for range 300 {
		same(t, "telling", p, []string{"a", "b"})
	}
}
