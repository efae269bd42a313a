package rep_test

import (
	"bytes"
	"cmp"
	"math"
	"math/rand"
	"slices"
	"testing"

	"annulet/api"
	"annulet/rep"
)

// What the chapter says, told a second time: of all that may be known those with the least of one thing after the other are left; a list with what is put behind it is sorted by how it stands to that.

func small(n byte) api.ID { return api.ID{15: n} }

// one is Heard, told shortly, as the chapter's examples do.
func one(n int, id byte, far int64) rep.Heard { return rep.Heard{N: n, ID: small(id), Far: far} }

// farther is a distance and one more, of those that count.
func farther(far int64) (int64, bool) {
	for i, x := range []int64{0, 1, 2, 3, 4, 5} {
		if far == x {
			return int64(i + 1), true
		}
	}
	return 0, false
}

// leasts are those than which none is less, by an order.
func leasts(l []rep.Heard, by func(a, b rep.Heard) int) []rep.Heard {
	var out []rep.Heard
	for _, x := range l {
		if !slices.ContainsFunc(l, func(y rep.Heard) bool { return by(y, x) < 0 }) {
			out = append(out, x)
		}
	}
	return out
}

func toldBest(self api.ID, l []rep.Heard) rep.Heard {
	known := []rep.Heard{{N: -1, ID: self, Far: 0}}
	for _, x := range l {
		if far, ok := farther(x.Far); ok {
			known = append(known, rep.Heard{N: x.N, ID: x.ID, Far: far})
		}
	}
	known = leasts(known, func(a, b rep.Heard) int { return bytes.Compare(a.ID[:], b.ID[:]) })
	known = leasts(known, func(a, b rep.Heard) int { return cmp.Compare(a.Far, b.Far) })
	known = leasts(known, func(a, b rep.Heard) int { return cmp.Compare(a.N, b.N) })
	return known[0]
}

func toldForget(l []rep.Heard, n int) []rep.Heard {
	return slices.DeleteFunc(slices.Clone(l), func(x rep.Heard) bool { return x.N == n })
}

func toldPut(l []rep.Heard, x rep.Heard) []rep.Heard {
	out := append(toldForget(l, x.N), x)
	slices.SortStableFunc(out, func(a, b rep.Heard) int {
		return cmp.Compare(a.N, x.N) - cmp.Compare(b.N, x.N)
	})
	return out
}

func bests(t *testing.T, self api.ID, l []rep.Heard) {
	t.Helper()
	if got, want := rep.Best(self, l), toldBest(self, l); got != want {
		t.Fatalf("Best(%x, %v) = %v, want %v", self, l, got, want)
	}
}

func puts(t *testing.T, l []rep.Heard, x rep.Heard) {
	t.Helper()
	if got, want := rep.Put(l, x), toldPut(l, x); !slices.Equal(got, want) {
		t.Fatalf("Put(%v, %v) = %v, want %v", l, x, got, want)
	}
}

func forgets(t *testing.T, l []rep.Heard, n int) {
	t.Helper()
	if got, want := rep.Forget(l, n), toldForget(l, n); !slices.Equal(got, want) {
		t.Fatalf("Forget(%v, %d) = %v, want %v", l, n, got, want)
	}
}

// lists goes over all lists of at most so many of a pool: in every order, with doubles.
func lists(pool []rep.Heard, longest int, each func(l []rep.Heard)) {
	var grow func(l []rep.Heard)
	grow = func(l []rep.Heard) {
		each(l)
		if len(l) == longest {
			return
		}
		for _, x := range pool {
			grow(append(slices.Clone(l), x))
		}
	}
	grow(nil)
}

// product is each N with each identity and each Far.
func product(ns []int, ids []api.ID, fars []int64) []rep.Heard {
	var l []rep.Heard
	for _, n := range ns {
		for _, id := range ids {
			for _, far := range fars {
				l = append(l, rep.Heard{N: n, ID: id, Far: far})
			}
		}
	}
	return l
}

// edgePlaces are places as there are and numbers that are none; two that are far apart are told apart by no difference.
func edgePlaces() []int {
	return []int{0, 1, 2, 5, 6, -1, -2, math.MaxInt, math.MinInt, math.MaxInt - 1, math.MinInt + 1, math.MaxInt32, math.MinInt32, 1 << 32}
}

// edgeFars are distances of which just 0 to 5 count.
func edgeFars() []int64 {
	return []int64{0, 1, 2, 3, 4, 5, 6, 7, -1, -2, math.MaxInt64, math.MaxInt64 - 1, math.MinInt64, math.MinInt64 + 1, 1 << 32, 1<<32 + 1, -1 << 32, 256}
}

// edgeIDs are identities whose order hangs on their first byte, on their last, or on all.
func edgeIDs() []api.ID {
	full := api.ID{}
	for i := range full {
		full[i] = 255
	}
	return []api.ID{{}, small(1), small(5), small(255), {14: 1}, {0: 1}, {0: 1, 15: 1}, {0: 127, 15: 255}, {0: 128}, {7: 1}, {8: 1}, full}
}

func pick[T any](r *rand.Rand, l []T) T { return l[r.Intn(len(l))] }

// drawnID is one of few, one at an edge, or any.
func drawnID(r *rand.Rand) api.ID {
	switch r.Intn(4) {
	case 0:
		return pick(r, edgeIDs())
	case 1:
		var id api.ID
		r.Read(id[:])
		return id
	}
	return small(byte(r.Intn(4)))
}

// drawnHeard is of so many places, now and then of a number that is none.
func drawnHeard(r *rand.Rand, many int) rep.Heard {
	x := rep.Heard{N: r.Intn(many), ID: drawnID(r), Far: int64(r.Intn(8)) - 1}
	if r.Intn(10) == 0 {
		x.N = pick(r, edgePlaces())
	}
	if r.Intn(10) == 0 {
		x.Far = pick(r, edgeFars())
	}
	return x
}

func drawn(r *rand.Rand, n, many int) []rep.Heard {
	var l []rep.Heard
	for range n {
		l = append(l, drawnHeard(r, many))
	}
	return l
}

// P16.1: the chapter's examples.
func TestExamples(t *testing.T) {
	for _, c := range []struct {
		l    []rep.Heard
		want rep.Heard
	}{
		{[]rep.Heard{one(1, 3, 0), one(2, 3, 0)}, one(1, 3, 1)},
		{[]rep.Heard{one(1, 3, 5)}, one(1, 3, 6)},
		{[]rep.Heard{one(1, 3, 6)}, one(-1, 5, 0)},
	} {
		if got := rep.Best(small(5), c.l); got != c.want {
			t.Errorf("Best(5, %v) = %v, want %v", c.l, got, c.want)
		}
	}
}

// P16.1: all lists of at most three, of places, identities and distances that do and don't count; all of four of fewer.
func TestBestOfShortLists(t *testing.T) {
	few := product([]int{0, -1, math.MinInt}, []api.ID{small(4), small(5), {0: 1}}, []int64{-1, 0, 1, 5, 6})
	lists(few, 3, func(l []rep.Heard) { bests(t, small(5), l) })
	fewer := product([]int{1, 2}, []api.ID{small(3), small(4)}, []int64{0, 5, 6})
	lists(fewer, 4, func(l []rep.Heard) { bests(t, small(5), l) })
}

// P16.1: lists with one and with two, at every edge of a place, an identity and a distance.
func TestBestAtEdges(t *testing.T) {
	all := product(edgePlaces(), edgeIDs(), edgeFars())
	for _, self := range edgeIDs() {
		for i, x := range all {
			bests(t, self, []rep.Heard{x})
			bests(t, self, []rep.Heard{x, all[(7*i+1)%len(all)]})
		}
	}
}

// P16.1: long lists, drawn the same way in each run.
func TestBestOfLongLists(t *testing.T) {
	r := rand.New(rand.NewSource(16))
	for n := range 200 {
		for _, many := range []int{1, 2, 6, 1000} {
			l := drawn(r, n, many)
			bests(t, drawnID(r), l)
			bests(t, small(2), l)
		}
	}
}

// P16.1: which distances count, and what is made of them.
func TestWhichFarCounts(t *testing.T) {
	for far := int64(-1); far <= 7; far++ {
		want := one(2, 3, far+1)
		if far < 0 || far > 5 {
			want = one(-1, 5, 0)
		}
		if got := rep.Best(small(5), []rep.Heard{one(2, 3, far)}); got != want {
			t.Errorf("heard at %d, Best = %v, want %v", far, got, want)
		}
	}
	for _, far := range []int64{math.MaxInt64, math.MinInt64, math.MaxInt64 - 1, math.MinInt64 + 1, 1 << 32, -1 << 32, 256} {
		if got := rep.Best(small(5), []rep.Heard{one(2, 3, far)}); got != one(-1, 5, 0) {
			t.Errorf("heard at %d, Best = %v", far, got)
		}
		if got := rep.Best(small(5), []rep.Heard{one(2, 3, far), one(4, 4, 2)}); got != one(4, 4, 3) {
			t.Errorf("heard at %d, and another one, Best = %v", far, got)
		}
	}
}

// P16.1: answers of Best written out.
func TestBestWrittenOut(t *testing.T) {
	for _, c := range []struct {
		l    []rep.Heard
		want rep.Heard
	}{
		// Its own identity, told by others, is farther than itself.
		{[]rep.Heard{one(0, 5, 0)}, one(-1, 5, 0)},
		{[]rep.Heard{one(math.MinInt, 5, 0), one(-1, 5, 0), one(-2, 5, -1)}, one(-1, 5, 0)},
		// Less and greater.
		{[]rep.Heard{one(0, 6, 0)}, one(-1, 5, 0)},
		{[]rep.Heard{one(0, 4, 0)}, one(0, 4, 1)},
		{[]rep.Heard{one(0, 0, 0)}, one(0, 0, 1)},
		{[]rep.Heard{one(0, 6, 0), one(1, 4, 5), one(2, 5, 0)}, one(1, 4, 6)},
		// The least identity counts ahead of the least distance, that ahead of the least place.
		{[]rep.Heard{one(0, 4, 0), one(1, 3, 5)}, one(1, 3, 6)},
		{[]rep.Heard{one(0, 3, 4), one(1, 3, 2), one(2, 3, 3)}, one(1, 3, 3)},
		{[]rep.Heard{one(3, 3, 2), one(1, 3, 2), one(2, 3, 2)}, one(1, 3, 3)},
		{[]rep.Heard{one(0, 3, 6), one(1, 3, 5)}, one(1, 3, 6)},
		{[]rep.Heard{one(math.MaxInt, 3, 2), one(math.MinInt, 3, 2)}, one(math.MinInt, 3, 3)},
		// One neighbour with two, and the number that stands for the node itself.
		{[]rep.Heard{one(1, 4, 0), one(1, 3, 0), one(1, 3, 4)}, one(1, 3, 1)},
		{[]rep.Heard{one(0, 3, 0), one(-1, 3, 0)}, one(-1, 3, 1)},
		{[]rep.Heard{one(-2, 3, 0), one(-1, 3, 0)}, one(-2, 3, 1)},
	} {
		for _, l := range [][]rep.Heard{c.l, backwards(c.l)} {
			if got := rep.Best(small(5), l); got != c.want {
				t.Errorf("Best(5, %v) = %v, want %v", l, got, c.want)
			}
		}
	}
}

func backwards(l []rep.Heard) []rep.Heard {
	out := slices.Clone(l)
	slices.Reverse(out)
	return out
}

// P16.1: identities are numbers, the highest byte first.
func TestBestOrdersByNumbers(t *testing.T) {
	rising := []api.ID{{}, small(1), small(255), {14: 1}, {8: 1}, {7: 1}, {0: 1}, {0: 1, 15: 1}, {0: 127, 15: 255}, {0: 128}}
	for i, a := range rising {
		for j, b := range rising {
			want := rep.Heard{N: -1, ID: a}
			if j < i {
				want = rep.Heard{N: 4, ID: b, Far: 3}
			}
			if got := rep.Best(a, []rep.Heard{{N: 4, ID: b, Far: 2}}); got != want {
				t.Errorf("Best(%x, {4, %x, 2}) = %v, want %v", a, b, got, want)
			}
		}
	}
}

// P16.1: in whatever order the neighbours told.
func TestBestInEveryOrder(t *testing.T) {
	r := rand.New(rand.NewSource(161))
	for n := range 60 {
		l, self := drawn(r, n, 6), drawnID(r)
		want := rep.Best(self, l)
		for range 6 {
			r.Shuffle(len(l), func(i, j int) { l[i], l[j] = l[j], l[i] })
			if got := rep.Best(self, l); got != want {
				t.Fatalf("Best(%x, %v) = %v, in another order %v", self, l, got, want)
			}
		}
	}
}

// marked are these places, each with an identity and a distance by which it is told apart.
func marked(ns ...int) []rep.Heard {
	var l []rep.Heard
	for i, n := range ns {
		l = append(l, one(n, byte(i+1), int64(100+i)))
	}
	return l
}

// P16.1: Put and Forget of every number, at all lists of at most four places, some of which are none.
func TestPutAndForgetAtShortLists(t *testing.T) {
	pool := marked(math.MinInt, -1, 0, 1, 3, math.MaxInt)
	lists(pool, 4, func(places []rep.Heard) {
		var ns []int
		for _, x := range places {
			ns = append(ns, x.N)
		}
		l := marked(ns...)
		for _, n := range []int{0, 1, 2, 3, -1, math.MinInt, math.MaxInt, math.MinInt + 1} {
			puts(t, l, one(n, 77, -5))
			forgets(t, l, n)
		}
	})
}

// P16.1: Put and Forget at long lists, in order of N and not.
func TestPutAndForgetAtLongLists(t *testing.T) {
	r := rand.New(rand.NewSource(162))
	for n := range 200 {
		for _, many := range []int{1, 2, 6, 1000} {
			l := drawn(r, n, many)
			for range 2 {
				for _, x := range append(drawn(r, 4, many), l[:n/20]...) {
					puts(t, l, x)
					forgets(t, l, x.N)
				}
				slices.SortFunc(l, func(a, b rep.Heard) int { return cmp.Compare(a.N, b.N) })
			}
		}
	}
}

// P16.1: answers of Put written out: at the front, within, at the end; of an N that is there once, twice and not at all.
func TestPutWrittenOut(t *testing.T) {
	x := func(n int) rep.Heard { return one(n, 9, 9) }
	at := func(n int, mark int) rep.Heard { return one(n, byte(mark), int64(99+mark)) }
	for _, c := range []struct {
		l    []rep.Heard
		n    int
		want []rep.Heard
	}{
		{nil, 2, []rep.Heard{x(2)}},
		{[]rep.Heard{}, -1, []rep.Heard{x(-1)}},
		{marked(1, 3), 0, []rep.Heard{x(0), at(1, 1), at(3, 2)}},
		{marked(1, 3), 2, []rep.Heard{at(1, 1), x(2), at(3, 2)}},
		{marked(1, 3), 4, []rep.Heard{at(1, 1), at(3, 2), x(4)}},
		{marked(1, 3), 1, []rep.Heard{x(1), at(3, 2)}},
		{marked(1, 3), 3, []rep.Heard{at(1, 1), x(3)}},
		{marked(1, 2, 3), 2, []rep.Heard{at(1, 1), x(2), at(3, 3)}},
		{marked(1, 2, 2, 3), 2, []rep.Heard{at(1, 1), x(2), at(3, 4)}},
		{marked(2, 1, 2), 2, []rep.Heard{at(1, 2), x(2)}},
		{marked(2, 3, 2), 2, []rep.Heard{x(2), at(3, 2)}},
		// In no order: each stays in the order in which it stood.
		{marked(5, 1, 4, 0, 3), 2, []rep.Heard{at(1, 2), at(0, 4), x(2), at(5, 1), at(4, 3), at(3, 5)}},
		{marked(5, 1, 5, 1), 3, []rep.Heard{at(1, 2), at(1, 4), x(3), at(5, 1), at(5, 3)}},
		{marked(math.MaxInt, math.MinInt), 0, []rep.Heard{at(math.MinInt, 2), x(0), at(math.MaxInt, 1)}},
		{marked(math.MinInt, math.MaxInt), math.MaxInt, []rep.Heard{at(math.MinInt, 1), x(math.MaxInt)}},
		{marked(math.MinInt, math.MaxInt), math.MinInt, []rep.Heard{x(math.MinInt), at(math.MaxInt, 2)}},
		{marked(math.MaxInt), math.MinInt, []rep.Heard{x(math.MinInt), at(math.MaxInt, 1)}},
	} {
		if got := rep.Put(c.l, x(c.n)); !slices.Equal(got, c.want) {
			t.Errorf("Put(%v, %d) = %v, want %v", c.l, c.n, got, c.want)
		}
	}
}

// P16.1: Put takes what it is handed as it is, also a distance that doesn't count.
func TestPutKeepsWhatWasTold(t *testing.T) {
	for _, x := range product(edgePlaces(), edgeIDs(), edgeFars()) {
		if l := rep.Put(nil, x); len(l) != 1 || l[0] != x {
			t.Errorf("Put(none, %v) = %v", x, l)
		}
		if l := rep.Put([]rep.Heard{{N: x.N}}, x); len(l) != 1 || l[0] != x {
			t.Errorf("Put of %v in place of another = %v", x, l)
		}
	}
}

// P16.1: answers of Forget written out.
func TestForgetWrittenOut(t *testing.T) {
	for _, c := range []struct {
		l    []rep.Heard
		n    int
		want []rep.Heard
	}{
		{nil, 0, nil},
		{[]rep.Heard{}, -1, nil},
		{marked(0), 0, nil},
		{marked(0), 1, marked(0)},
		{marked(2, 2, 2), 2, nil},
		{marked(1, 2, 3), 3, marked(1, 2)},
		{marked(1, 2, 3), 4, marked(1, 2, 3)},
		{marked(1, 2, 3), -1, marked(1, 2, 3)},
		{marked(1, 2, 3), 1, marked(9, 2, 3)[1:]},
		{marked(3, 1, 2, 1), 1, []rep.Heard{one(3, 1, 100), one(2, 3, 102)}},
		{marked(-1, math.MinInt, math.MaxInt), math.MinInt, []rep.Heard{one(-1, 1, 100), one(math.MaxInt, 3, 102)}},
	} {
		if got := rep.Forget(c.l, c.n); !slices.Equal(got, c.want) {
			t.Errorf("Forget(%v, %d) = %v, want %v", c.l, c.n, got, c.want)
		}
	}
}

// P16.1: rows of Put and Forget, one behind the other, on a list of any kind; begun with none they hold one of each N, rising.
func TestRowsOfPutAndForget(t *testing.T) {
	r := rand.New(rand.NewSource(163))
	for row := range 200 {
		many := []int{1, 3, 6, 40}[row%4]
		start := drawn(r, row%3*row/8, many)
		l, told := start, slices.Clone(start)
		last := make(map[int]rep.Heard)
		for range 80 {
			x := drawnHeard(r, many)
			if r.Intn(3) > 0 {
				l, told, last[x.N] = rep.Put(l, x), toldPut(told, x), x
			} else {
				l, told = rep.Forget(l, x.N), toldForget(told, x.N)
				delete(last, x.N)
			}
			if !slices.Equal(l, told) {
				t.Fatalf("a row comes to %v, want %v", l, told)
			}
			bests(t, small(2), l)
			if len(start) == 0 {
				onceRising(t, l, last)
			}
		}
	}
}

// onceRising holds a list against what each one told last.
func onceRising(t *testing.T, l []rep.Heard, last map[int]rep.Heard) {
	t.Helper()
	if len(l) != len(last) {
		t.Fatalf("%v, but %d were heard", l, len(last))
	}
	for i, x := range l {
		if i > 0 && l[i-1].N >= x.N || last[x.N] != x {
			t.Fatalf("%v isn't rising, or isn't what was heard last: %v", l, last)
		}
	}
}

// R1, R4: nil and empty lists mean the same.
func TestNone(t *testing.T) {
	for _, none := range [][]rep.Heard{nil, {}, make([]rep.Heard, 0, 3)} {
		for _, id := range edgeIDs() {
			if got := rep.Best(id, none); got != (rep.Heard{N: -1, ID: id}) {
				t.Errorf("Best(%x, none) = %v", id, got)
			}
		}
		for _, n := range edgePlaces() {
			if l := rep.Forget(none, n); len(l) != 0 {
				t.Errorf("Forget(none, %d) = %v", n, l)
			}
			x := one(n, 3, 4)
			if l := rep.Put(none, x); !slices.Equal(l, []rep.Heard{x}) {
				t.Errorf("Put(none, %v) = %v", x, l)
			}
			if l := rep.Forget(rep.Put(none, x), n); len(l) != 0 {
				t.Errorf("put and forgotten, there is %v", l)
			}
		}
	}
}

// P16.1, R1: very long lists.
func TestVeryLongLists(t *testing.T) {
	const many = 1 << 17
	var l []rep.Heard
	for i := range many {
		l = append(l, rep.Heard{N: many - i, ID: api.ID{12: 1, 13: byte(i >> 16), 14: byte(i >> 8), 15: byte(i)}, Far: int64(i % 9)})
	}
	if got := rep.Best(api.ID{0: 9}, l); got != (rep.Heard{N: many, ID: api.ID{12: 1}, Far: 1}) {
		t.Errorf("Best of many = %v", got)
	}
	put := rep.Put(l, one(many/2, 1, 1))
	if len(put) != many || put[many/2-1] != one(many/2, 1, 1) || put[0] != l[many/2+1] || put[many-1] != l[many/2-1] {
		t.Error("Put within many")
	}
	if rest := rep.Forget(l, 1); !slices.Equal(rest, l[:many-1]) {
		t.Error("Forget of many")
	}
}

// roomy is a list with spare room behind it, and the whole of its memory.
func roomy(l []rep.Heard) (list, whole []rep.Heard) {
	whole = append(slices.Clone(l), one(0, 70, 70), one(71, 0, 71), one(-72, 72, 0))
	return whole[:len(l)], whole
}

// spoil changes a list, its spare room too.
func spoil(l []rep.Heard) {
	l = l[:cap(l)]
	for i := range l {
		l[i] = one(99, 99, 99)
	}
}

// asked are the calls that answer lists, of numbers ahead of, among and behind those of a list.
func asked() []func(l []rep.Heard) []rep.Heard {
	var calls []func(l []rep.Heard) []rep.Heard
	for _, n := range []int{math.MinInt, -1, 0, 1, 2, 3, 5, 6, math.MaxInt} {
		calls = append(calls,
			func(l []rep.Heard) []rep.Heard { return rep.Put(l, one(n, 3, 3)) },
			func(l []rep.Heard) []rep.Heard { return rep.Forget(l, n) })
	}
	return calls
}

// R3: what is handed in is left as it is, its spare room too.
func TestArgumentsStay(t *testing.T) {
	r := rand.New(rand.NewSource(3))
	for n := range 40 {
		l, whole := roomy(drawn(r, n, 6))
		was := slices.Clone(whole)
		rep.Best(small(3), l)
		for _, ask := range asked() {
			ask(l)
			if !slices.Equal(whole, was) {
				t.Fatalf("handed in %v, afterwards %v", was, whole)
			}
		}
	}
}

// R3: an answer is memory of its own, also where nothing is taken out.
func TestAnswersAreNewMemory(t *testing.T) {
	for _, of := range [][]rep.Heard{nil, marked(0), marked(1), marked(0, 1, 2), marked(2, 2), marked(3, 1, 2, 1, 5), marked(0, 1, 2, 3, 4, 5)} {
		for _, ask := range asked() {
			l, whole := roomy(of)
			was := slices.Clone(whole)
			got, again := ask(l), ask(l)
			want := slices.Clone(again)
			spoil(got)
			if !slices.Equal(whole, was) || !slices.Equal(again, want) {
				t.Errorf("of %v: the answer was changed, and with it %v, %v", of, whole, again)
			}
			spoil(whole)
			if !slices.Equal(again, want) {
				t.Errorf("of %v: the argument was changed, and with it %v", of, again)
			}
		}
	}
}

// R3: what was answered may be handed in again, and stays as it is while another one is made of it.
func TestAnswersBranch(t *testing.T) {
	r := rand.New(rand.NewSource(33))
	for n := range 40 {
		l := rep.Put(drawn(r, n, 6), one(3, 3, 3))
		was := slices.Clone(l)
		for _, x := range drawn(r, 8, 6) {
			one, two := rep.Put(l, x), rep.Put(l, rep.Heard{N: x.N, Far: -9})
			if !slices.Equal(one, toldPut(was, x)) || !slices.Equal(two, toldPut(was, rep.Heard{N: x.N, Far: -9})) || !slices.Equal(l, was) {
				t.Fatalf("of %v came %v and %v, and it is %v", was, one, two, l)
			}
		}
	}
}

// R2: what was asked earlier, and how often, changes no answer; a list that is changed is a new one.
func TestAskedAgain(t *testing.T) {
	r := rand.New(rand.NewSource(2))
	l := drawn(r, 12, 5)
	for range 300 {
		for range 3 {
			bests(t, small(2), l)
			puts(t, l, one(2, 1, 1))
			forgets(t, l, 3)
		}
		l[r.Intn(len(l))] = drawnHeard(r, 5)
	}
}
