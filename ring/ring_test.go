package ring_test

import (
	"bytes"
	"math"
	"math/bits"
	"math/rand"
	"slices"
	"testing"

	"annulet/api"
	"annulet/ring"
)

// The second telling counts who is met ahead of whom, as the chapter's words do, and sorts nothing; its numbers are two words of 64 bits.

type number struct{ hi, lo uint64 }

func numberOf(a api.ID) (n number) {
	for _, x := range a[:8] {
		n.hi = n.hi<<8 | uint64(x)
	}
	for _, x := range a[8:] {
		n.lo = n.lo<<8 | uint64(x)
	}
	return n
}

func (n number) id() (a api.ID) {
	for i := range 8 {
		a[7-i] = byte(n.hi >> (8 * i))
		a[15-i] = byte(n.lo >> (8 * i))
	}
	return a
}

func (n number) less(m number) bool {
	return n.hi < m.hi || n.hi == m.hi && n.lo < m.lo
}

func (n number) plus(m number) number {
	lo, carry := bits.Add64(n.lo, m.lo, 0)
	hi, _ := bits.Add64(n.hi, m.hi, carry)
	return number{hi, lo}
}

func (n number) minus(m number) number {
	lo, borrow := bits.Sub64(n.lo, m.lo, 0)
	hi, _ := bits.Sub64(n.hi, m.hi, borrow)
	return number{hi, lo}
}

func (n number) half() number { return number{n.hi >> 1, n.lo>>1 | n.hi<<63} }

// steps is how far it is clockwise from one identity to another.
func steps(from, to api.ID) number { return numberOf(to).minus(numberOf(from)) }

// shift is the identity that stands n steps clockwise from a.
func shift(a api.ID, n int64) api.ID {
	if n < 0 {
		return numberOf(a).minus(number{0, uint64(-n)}).id()
	}
	return numberOf(a).plus(number{0, uint64(n)}).id()
}

func small(n int64) api.ID { return shift(api.ID{}, n) }

func smalls(l ...int64) []api.ID {
	var ids []api.ID
	for _, n := range l {
		ids = append(ids, small(n))
	}
	return ids
}

// opposite stands as far from a both ways.
func opposite(a api.ID) api.ID {
	a[0] ^= 128
	return a
}

func toldHas(l []api.ID, x api.ID) bool {
	for i := range l {
		if bytes.Equal(l[i][:], x[:]) {
			return true
		}
	}
	return false
}

// toldSorted takes the least one that is left, till none is.
func toldSorted(self api.ID, ids []api.ID) []api.ID {
	var out []api.ID
	for {
		var least *api.ID
		for i, x := range ids {
			if x != self && !toldHas(out, x) && (least == nil || numberOf(x).less(numberOf(*least))) {
				least = &ids[i]
			}
		}
		if least == nil {
			return out
		}
		out = append(out, *least)
	}
}

func toldWant(self api.ID, ids []api.ID, half int) []api.ID {
	var out []api.ID
	others := toldSorted(self, ids)
	for _, x := range others {
		with, against := 0, 0
		for _, y := range others {
			if steps(self, y).less(steps(self, x)) {
				with++
			}
			if steps(y, self).less(steps(x, self)) {
				against++
			}
		}
		if with < half || against < half {
			out = append(out, x)
		}
	}
	return out
}

func toldNext(at api.ID, ids []api.ID) (api.ID, bool) {
	for _, x := range ids {
		ahead := func(y api.ID) bool { return y != at && steps(at, y).less(steps(at, x)) }
		if x != at && !slices.ContainsFunc(ids, ahead) {
			return x, true
		}
	}
	return api.ID{}, false
}

// toldNearer is layer 1's order, told again: the shorter way counts, and of two ways that are as long the one behind d.
func toldNearer(d, a, b api.ID) bool {
	far := func(x api.ID) number {
		there, back := steps(d, x), steps(x, d)
		if back.less(there) {
			return back
		}
		return there
	}
	if far(a) == far(b) {
		return steps(d, a).less(steps(d, b))
	}
	return far(a).less(far(b))
}

// holds asks every call but Mutual, and holds each answer against the second telling.
func holds(t *testing.T, self api.ID, ids []api.ID, half int) {
	t.Helper()
	if got, want := ring.Sorted(self, ids...), toldSorted(self, ids); !slices.Equal(got, want) {
		t.Fatalf("Sorted(%x, %x) = %x, want %x", self, ids, got, want)
	}
	if got, want := ring.Want(self, ids, half), toldWant(self, ids, half); !slices.Equal(got, want) {
		t.Fatalf("Want(%x, %x, %d) = %x, want %x", self, ids, half, got, want)
	}
	if got, want := ring.Has(ids, self), toldHas(ids, self); got != want {
		t.Fatalf("Has(%x, %x) = %v, want %v", ids, self, got, want)
	}
	got, ok := ring.Next(self, ids)
	if want, there := toldNext(self, ids); got != want || ok != there {
		t.Fatalf("Next(%x, %x) = %x, %v, want %x, %v", self, ids, got, ok, want, there)
	}
}

// both asks Mutual, and of each pair whether both want the other or neither does.
func both(t *testing.T, ids []api.ID, half int) {
	t.Helper()
	if !ring.Mutual(ids, half) {
		t.Fatalf("Mutual(%x, %d) = false", ids, half)
	}
	for _, a := range ids {
		for _, b := range ids {
			there := ring.Has(ring.Want(a, ids, half), b)
			back := ring.Has(ring.Want(b, ids, half), a)
			if there != back {
				t.Fatalf("of %x, half %d: does %x want %x: %v, and the other way: %v", ids, half, a, b, there, back)
			}
		}
	}
}

// greedy holds P10.3 for one d: whoever isn't the nearest one wants one that is nearer.
func greedy(t *testing.T, d api.ID, ids []api.ID, half int) {
	t.Helper()
	for _, a := range ids {
		nearer := func(x api.ID) bool { return toldNearer(d, x, a) }
		if slices.ContainsFunc(ids, nearer) && !slices.ContainsFunc(ring.Want(a, ids, half), nearer) {
			t.Fatalf("of %x, half %d: %x isn't the nearest to %x, but wants nobody nearer", ids, half, a, d)
		}
	}
}

// enough holds P10.4 for one a, among ids or not.
func enough(t *testing.T, a api.ID, ids []api.ID, half int) {
	t.Helper()
	want := ring.Want(a, ids, half)
	if got := ring.Want(a, want, half); !slices.Equal(got, want) {
		t.Fatalf("Want(%x, Want(%x, half %d)) = %x, want %x", a, ids, half, got, want)
	}
	b, ok := ring.Next(a, ids)
	if !ok || ring.Has(ids, a) {
		return
	}
	l := append(ring.Want(b, ids, half), b)
	if got := ring.Want(a, l, half); !slices.Equal(got, want) {
		t.Fatalf("%x comes to %x, half %d, and learns from %x: %x, want %x", a, ids, half, b, got, want)
	}
}

// edges stand just ahead of zero and just behind it, where a word and a byte turn over, and opposite to each other.
func edges() []api.ID {
	turn := number{1, 0}.id()
	return []api.ID{small(0), small(-1), small(1), small(-2), opposite(small(0)), opposite(small(1)), opposite(small(-1)), turn, shift(turn, -1), small(255), small(256)}
}

// lists goes over all lists of at most so many of a pool: in every order, with doubles.
func lists(pool []api.ID, longest int, each func(ids []api.ID)) {
	var grow func(ids []api.ID)
	grow = func(ids []api.ID) {
		each(ids)
		if len(ids) == longest {
			return
		}
		for _, x := range pool {
			grow(append(slices.Clone(ids), x))
		}
	}
	grow(nil)
}

// drawn are n identities, some close together, some around zero, some opposite to one that is there, some doubles.
func drawn(r *rand.Rand, n int) []api.ID {
	var ids []api.ID
	for len(ids) < n {
		x := number{r.Uint64(), r.Uint64()}.id()
		if some := len(ids); some > 0 {
			x = ids[r.Intn(some)]
		}
		switch r.Intn(8) {
		case 0:
			x = shift(x, int64(r.Intn(7)-3))
		case 1:
			x = opposite(x)
		case 2:
			x = small(int64(r.Intn(9) - 4))
		case 3:
			x = edges()[r.Intn(len(edges()))]
		case 4: // a double
		default:
			x = number{r.Uint64(), r.Uint64()}.id()
		}
		ids = append(ids, x)
	}
	return ids
}

// halves are those that mean something for n identities, and those that can't be.
func halves(n int) []int {
	return []int{1, 2, 3, n / 2, (n + 1) / 2, n - 2, n - 1, n, n + 1, 2*n + 1, math.MaxInt, 0, -1, -2, -n, math.MinInt32, math.MinInt}
}

// P10.1: few identities: every list of at most four, with doubles and in every order, from those among it and from others.
func TestFewAnswerAsSaid(t *testing.T) {
	pool := []api.ID{small(0), small(-1), small(1), opposite(small(0)), small(7)}
	selves := append(slices.Clone(pool), small(-2), small(3), opposite(small(1)))
	lists(pool, 4, func(ids []api.ID) {
		for _, self := range selves {
			for half := -1; half <= 5; half++ {
				holds(t, self, ids, half)
			}
		}
	})
}

// P10.1: many identities, drawn the same way in each run.
func TestManyAnswerAsSaid(t *testing.T) {
	r := rand.New(rand.NewSource(10))
	for n := range 48 {
		ids := drawn(r, n)
		for _, half := range halves(n) {
			for _, self := range append(drawn(r, 2), pick(r, ids)...) {
				holds(t, self, ids, half)
			}
		}
	}
}

// pick is one of ids, if there is one.
func pick(r *rand.Rand, ids []api.ID) []api.ID {
	if len(ids) == 0 {
		return nil
	}
	at := r.Intn(len(ids))
	return ids[at : at+1 : at+1]
}

// P10.1: the chapter's examples.
func TestExamples(t *testing.T) {
	ids := smalls(1, 4, 9, 12)
	for _, c := range []struct {
		self int64
		half int
		want []api.ID
	}{
		{4, 1, smalls(1, 9)},
		{12, 1, smalls(1, 9)},
		{4, 2, smalls(1, 9, 12)},
	} {
		if got := ring.Want(small(c.self), ids, c.half); !slices.Equal(got, c.want) {
			t.Errorf("Want(%d, half %d) = %x, want %x", c.self, c.half, got, c.want)
		}
	}
	if got, ok := ring.Next(small(12), ids); got != small(1) || !ok {
		t.Errorf("Next(12) = %x, %v, want 1, true", got, ok)
	}
}

// P10.1: answers written out: around zero, self among ids and not, two that are opposite, half 1, 2 and as great as ids are many.
func TestWantAtEdges(t *testing.T) {
	six := smalls(-3, -1, 0, 2, 5, 8)
	top, bottom := small(-3), small(-1)
	for _, c := range []struct {
		name string
		self api.ID
		ids  []api.ID
		half int
		want []api.ID
	}{
		{"zero, half 1", small(0), six, 1, []api.ID{small(2), bottom}},
		{"zero, half 2", small(0), six, 2, []api.ID{small(2), small(5), top, bottom}},
		{"zero, half 3: both ways meet", small(0), six, 3, []api.ID{small(2), small(5), small(8), top, bottom}},
		{"zero, half 6", small(0), six, 6, []api.ID{small(2), small(5), small(8), top, bottom}},
		{"just ahead of zero, half 1", bottom, six, 1, []api.ID{small(0), top}},
		{"not among them, half 1", small(1), six, 1, []api.ID{small(0), small(2)}},
		{"not among them, ahead of zero, half 1", small(-2), six, 1, []api.ID{top, bottom}},
		{"not among them, half 2", small(1), six, 2, []api.ID{small(0), small(2), small(5), bottom}},
		{"not among them, half 3", small(1), six, 3, []api.ID{small(0), small(2), small(5), small(8), top, bottom}},
		{"two that are opposite", small(0), []api.ID{small(0), opposite(small(0))}, 1, []api.ID{opposite(small(0))}},
		{"the other of them", opposite(small(0)), []api.ID{small(0), opposite(small(0))}, 1, []api.ID{small(0)}},
		{"one other, both ways the first", small(3), smalls(8), 1, smalls(8)},
		{"self alone", small(3), smalls(3, 3), 1, nil},
	} {
		if got := ring.Want(c.self, c.ids, c.half); !slices.Equal(got, c.want) {
			t.Errorf("%s: %x, want %x", c.name, got, c.want)
		}
	}
}

// P10.1: Next over the end of the ring, from one of ids and from between them.
func TestNextAtEdges(t *testing.T) {
	ids := smalls(-2, 0, 3)
	for _, c := range []struct{ at, want int64 }{{-3, -2}, {-2, 0}, {-1, 0}, {0, 3}, {1, 3}, {2, 3}, {3, -2}, {4, -2}} {
		if got, ok := ring.Next(small(c.at), ids); got != small(c.want) || !ok {
			t.Errorf("Next(%d) = %x, %v, want %d", c.at, got, ok, c.want)
		}
	}
	if got, ok := ring.Next(opposite(small(5)), smalls(5)); got != small(5) || !ok {
		t.Errorf("Next of the opposite one = %x, %v", got, ok)
	}
}

// P10.1, R4, R5: no ids, at alone, doubles, and halves that can't be.
func TestWrongInputs(t *testing.T) {
	for _, none := range [][]api.ID{nil, {}, make([]api.ID, 0, 3)} {
		if l := ring.Sorted(small(1), none...); len(l) != 0 {
			t.Errorf("Sorted of none: %x", l)
		}
		if l := ring.Want(small(1), none, 2); len(l) != 0 {
			t.Errorf("Want of none: %x", l)
		}
		if ring.Has(none, api.ID{}) {
			t.Error("none has zero")
		}
		if x, ok := ring.Next(small(1), none); ok || x != (api.ID{}) {
			t.Errorf("Next of none: %x, %v", x, ok)
		}
		for _, half := range halves(0) {
			if !ring.Mutual(none, half) {
				t.Errorf("Mutual of none, half %d: false", half)
			}
		}
	}
	for _, alone := range [][]api.ID{smalls(5), smalls(5, 5, 5)} {
		if x, ok := ring.Next(small(5), alone); ok || x != (api.ID{}) {
			t.Errorf("Next of at alone: %x, %v", x, ok)
		}
		if l := ring.Sorted(small(5), alone...); len(l) != 0 {
			t.Errorf("Sorted of self alone: %x", l)
		}
	}
	doubles := smalls(9, 4, 9, 1, 4, 4, 12, 1)
	if got := ring.Sorted(small(4), doubles...); !slices.Equal(got, smalls(1, 9, 12)) {
		t.Errorf("Sorted of doubles: %x", got)
	}
	if got := ring.Want(small(4), doubles, 1); !slices.Equal(got, smalls(1, 9)) {
		t.Errorf("Want of doubles: %x", got)
	}
	for _, half := range []int{0, -1, math.MinInt32, math.MinInt} {
		if got := ring.Want(small(4), doubles, half); len(got) != 0 {
			t.Errorf("Want with half %d: %x", half, got)
		}
	}
	for _, half := range []int{3, 4, 8, 9, math.MaxInt32, math.MaxInt} {
		if got := ring.Want(small(4), doubles, half); !slices.Equal(got, smalls(1, 9, 12)) {
			t.Errorf("Want with half %d: %x", half, got)
		}
	}
}

// P10.2: both or neither, of few identities and of many, whatever half is.
func TestBothOrNeither(t *testing.T) {
	lists(edges()[:5], 4, func(ids []api.ID) {
		for half := -1; half <= 5; half++ {
			both(t, ids, half)
		}
	})
	r := rand.New(rand.NewSource(102))
	for n := range 18 {
		ids := drawn(r, n)
		for _, half := range halves(n) {
			both(t, ids, half)
		}
	}
	many := drawn(r, 120)
	for _, half := range halves(len(many)) {
		if !ring.Mutual(many, half) {
			t.Fatalf("Mutual of many, half %d: false", half)
		}
	}
}

// goals are identities to go to: those that are there, those beside them, opposite to them, and in the middle between two.
func goals(ids []api.ID) []api.ID {
	l := edges()
	for i, a := range ids {
		l = append(l, a, shift(a, 1), shift(a, -1), opposite(a))
		for _, b := range ids[:i] {
			middle := numberOf(a).plus(steps(a, b).half()).id()
			l = append(l, middle, shift(middle, 1), opposite(middle))
		}
	}
	return l
}

// P10.3: whoever isn't the nearest one wants one that is nearer.
func TestGreedy(t *testing.T) {
	lists(edges()[:7], 3, func(ids []api.ID) {
		for _, d := range goals(ids) {
			for half := 1; half <= 3; half++ {
				greedy(t, d, ids, half)
			}
		}
	})
	r := rand.New(rand.NewSource(103))
	for n := range 14 {
		ids := drawn(r, n)
		for _, d := range append(goals(ids), drawn(r, 20)...) {
			for _, half := range []int{1, 2, n + 1} {
				greedy(t, d, ids, half)
			}
		}
	}
}

// P10.4: what it wants is enough to know whom it wants, and whoever comes learns it from the one that stands next.
func TestEnough(t *testing.T) {
	lists(edges()[:5], 4, func(ids []api.ID) {
		for _, a := range edges() {
			for half := -1; half <= 5; half++ {
				enough(t, a, ids, half)
			}
		}
	})
	r := rand.New(rand.NewSource(104))
	for n := range 48 {
		ids := drawn(r, n)
		for _, a := range append(drawn(r, 8), ids...) {
			for _, half := range halves(n) {
				enough(t, a, ids, half)
			}
		}
	}
}

// roomy is a list with spare room behind it, and the whole of its memory.
func roomy(ids []api.ID) (list, whole []api.ID) {
	whole = append(slices.Clone(ids), smalls(70, 71, 72)...)
	return whole[:len(ids)], whole
}

// R3: what is handed in is left as it is, its spare room too.
func TestArgumentsStay(t *testing.T) {
	r := rand.New(rand.NewSource(3))
	for n := range 12 {
		ids, whole := roomy(drawn(r, n))
		was := slices.Clone(whole)
		for _, self := range append(drawn(r, 1), pick(r, ids)...) {
			ring.Sorted(self, ids...)
			ring.Want(self, ids, 2)
			ring.Has(ids, self)
			ring.Next(self, ids)
			ring.Mutual(ids, 1)
			if !slices.Equal(whole, was) {
				t.Fatalf("handed in %x, afterwards %x", was, whole)
			}
		}
	}
}

// R3: an answer is memory of its own: neither who asked nor a later answer changes it, and what is done to it changes nothing else.
func TestAnswersAreNewMemory(t *testing.T) {
	asks := []func(ids []api.ID) []api.ID{
		func(ids []api.ID) []api.ID { return ring.Sorted(small(2), ids...) },
		func(ids []api.ID) []api.ID { return ring.Want(small(2), ids, 2) },
		func(ids []api.ID) []api.ID { return ring.Want(small(2), ids, 9) },
	}
	for i, ask := range asks {
		// As it would be answered, so that nothing need be moved.
		ids, whole := roomy(smalls(1, 4, 9, 12))
		was := slices.Clone(whole)
		got, again := ask(ids), ask(ids)
		spoil(got)
		if !slices.Equal(whole, was) || !slices.Equal(again, was[:4]) {
			t.Errorf("call %d: the answer was changed, and with it %x, %x", i, whole, again)
		}
		spoil(whole)
		if !slices.Equal(again, was[:4]) {
			t.Errorf("call %d: the argument was changed, and with it %x", i, again)
		}
	}
}

// spoil changes a list, its spare room too.
func spoil(l []api.ID) {
	l = l[:cap(l)]
	for i := range l {
		l[i] = small(99)
	}
}

// R2: the order of ids, doubles among them and earlier calls change no answer.
func TestOrderDoesNotCount(t *testing.T) {
	r := rand.New(rand.NewSource(2))
	for n := range 12 {
		ids := drawn(r, n)
		turned := append(slices.Clone(ids), pick(r, ids)...)
		r.Shuffle(len(turned), func(i, j int) { turned[i], turned[j] = turned[j], turned[i] })
		for _, self := range append(drawn(r, 3), pick(r, ids)...) {
			next, ok := ring.Next(self, ids)
			if x, there := ring.Next(self, turned); x != next || there != ok {
				t.Fatalf("Next(%x): %x of %x, %x of %x", self, next, ids, x, turned)
			}
			for _, half := range halves(n) {
				if a, b := ring.Want(self, ids, half), ring.Want(self, turned, half); !slices.Equal(a, b) {
					t.Fatalf("Want(%x, half %d): %x of %x, %x of %x", self, half, a, ids, b, turned)
				}
			}
			if a, b := ring.Sorted(self, ids...), ring.Sorted(self, turned...); !slices.Equal(a, b) {
				t.Fatalf("Sorted(%x): %x of %x, %x of %x", self, a, ids, b, turned)
			}
		}
	}
}
