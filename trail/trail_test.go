package trail_test

import (
	"math"
	"math/rand"
	"slices"
	"testing"

	"annulet/trail"
)

// The second telling holds places against each other two by two, and keeps no map.

func toldSimple(t []int) bool {
	for i := range t {
		for j := range i {
			if t[i] == t[j] {
				return false
			}
		}
	}
	return true
}

// toldErase is the chapter's sentence: a place is told, and it goes on behind where that place stands last.
func toldErase(t []int) []int {
	var out []int
	for len(t) > 0 {
		out = append(out, t[0])
		last := len(t) - 1
		for t[last] != t[0] {
			last--
		}
		t = t[last+1:]
	}
	return out
}

// walkedErase comes to the same by walking: whoever comes back to a place has the round behind it taken out.
func walkedErase(t []int) []int {
	var out []int
	for _, n := range t {
		for i := range out {
			if out[i] == n {
				out = out[:i]
				break
			}
		}
		out = append(out, n)
	}
	return out
}

func toldBack(t []int) []int {
	var out []int
	for len(t) > 0 {
		out = append(out, t[len(t)-1])
		t = t[:len(t)-1]
	}
	return out
}

func toldPlace(t []int, n int) int {
	where := -1
	for i := len(t) - 1; i >= 0; i-- {
		if t[i] == n {
			where = i
		}
	}
	return where
}

func toldJoins(t, of []int) bool {
	for i := 0; i+1 < len(t); i++ {
		there := false
		for j := 0; j+1 < len(of); j++ {
			there = there || t[i] == of[j] && t[i+1] == of[j+1]
		}
		if !there {
			return false
		}
	}
	return true
}

// same tells whether two lists hold the same; one without elements may be nil or empty.
func same(a, b []int) bool { return slices.Equal(a, b) }

// holds asks every call that takes one trail, and holds each answer against the second telling.
func holds(t *testing.T, tr []int) {
	t.Helper()
	if got, want := trail.Simple(tr), toldSimple(tr); got != want {
		t.Fatalf("Simple(%v) = %v, want %v", tr, got, want)
	}
	got := trail.Erase(tr)
	if want := toldErase(tr); !same(got, want) {
		t.Fatalf("Erase(%v) = %v, want %v", tr, got, want)
	}
	if want := walkedErase(tr); !same(got, want) {
		t.Fatalf("Erase(%v) = %v, walked: %v", tr, got, want)
	}
	if got, want := trail.Back(tr), toldBack(tr); !same(got, want) {
		t.Fatalf("Back(%v) = %v, want %v", tr, got, want)
	}
	if got := trail.Back(trail.Back(tr)); !same(got, tr) {
		t.Fatalf("Back(Back(%v)) = %v", tr, got)
	}
}

// stands asks where n stands in a trail.
func stands(t *testing.T, tr []int, n int) {
	t.Helper()
	if got, want := trail.Place(tr, n), toldPlace(tr, n); got != want {
		t.Fatalf("Place(%v, %d) = %d, want %d", tr, n, got, want)
	}
}

// joins asks whether one trail joins another.
func joins(t *testing.T, tr, of []int) {
	t.Helper()
	if got, want := trail.Joins(tr, of), toldJoins(tr, of); got != want {
		t.Fatalf("Joins(%v, %v) = %v, want %v", tr, of, got, want)
	}
}

// erased holds P11.2 for one trail, by the second telling and by the layer's own calls.
func erased(t *testing.T, tr []int) {
	t.Helper()
	e := trail.Erase(tr)
	if !toldSimple(e) || !trail.Simple(e) {
		t.Fatalf("Erase(%v) = %v isn't simple", tr, e)
	}
	if !toldJoins(e, tr) || !trail.Joins(e, tr) {
		t.Fatalf("Erase(%v) = %v doesn't join it", tr, e)
	}
	if (len(e) == 0) != (len(tr) == 0) {
		t.Fatalf("Erase(%v) = %v", tr, e)
	}
	if len(tr) > 0 && (e[0] != tr[0] || e[len(e)-1] != tr[len(tr)-1]) {
		t.Fatalf("Erase(%v) = %v begins or ends otherwise", tr, e)
	}
	if toldSimple(tr) && !same(e, tr) {
		t.Fatalf("%v is simple, but Erase makes it %v", tr, e)
	}
	if again := trail.Erase(e); !same(again, e) {
		t.Fatalf("Erase(%v) = %v, and Erase of that = %v", tr, e, again)
	}
}

// lists goes over all lists of at most so many of a pool: in every order, with doubles.
func lists(pool []int, longest int, each func(l []int)) {
	var grow func(l []int)
	grow = func(l []int) {
		each(l)
		if len(l) == longest {
			return
		}
		for _, n := range pool {
			grow(append(slices.Clone(l), n))
		}
	}
	grow(nil)
}

// edges are places as there are and numbers that are none.
func edges() []int {
	return []int{0, 1, -1, 5, math.MaxInt, math.MinInt, math.MaxInt32, math.MinInt32, math.MaxInt - 1, math.MinInt + 1, 1 << 32}
}

// drawn is a trail of n places, of so many that there are, now and then a number that is none.
func drawn(r *rand.Rand, n, many int) []int {
	var l []int
	for range n {
		x := r.Intn(many)
		switch r.Intn(12) {
		case 0:
			x = edges()[r.Intn(len(edges()))]
		case 1:
			if len(l) > 0 {
				x = l[len(l)-1]
			}
		}
		l = append(l, x)
	}
	return l
}

// counted are n places, each once, rising.
func counted(n int) []int {
	var l []int
	for i := range n {
		l = append(l, i)
	}
	return l
}

// P11.1: every trail of at most six out of five places, some of which are no places.
func TestShortTrailsAnswerAsSaid(t *testing.T) {
	pool := []int{0, 1, -1, math.MaxInt, math.MinInt}
	lists(pool, 6, func(l []int) {
		holds(t, l)
		for _, n := range edges() {
			stands(t, l, n)
		}
	})
}

// P11.1: every two short trails.
func TestShortTrailsJoinAsSaid(t *testing.T) {
	pool := []int{0, 7, math.MinInt}
	lists(pool, 4, func(l []int) {
		lists(pool, 5, func(of []int) { joins(t, l, of) })
	})
}

// P11.1: long trails, drawn the same way in each run, of few places and of many.
func TestLongTrailsAnswerAsSaid(t *testing.T) {
	r := rand.New(rand.NewSource(11))
	for n := range 160 {
		for _, many := range []int{1, 2, 6, 30, 1000, math.MaxInt32} {
			l := drawn(r, n, many)
			holds(t, l)
			for _, x := range append(drawn(r, 4, many), l...) {
				stands(t, l, x)
			}
		}
	}
}

// P11.1: long trails that join, and that would but for one step.
func TestLongTrailsJoinAsSaid(t *testing.T) {
	r := rand.New(rand.NewSource(112))
	for n := range 120 {
		for _, many := range []int{2, 6, 30} {
			of := drawn(r, n, many)
			joins(t, drawn(r, 3, many), of)
			joins(t, of, drawn(r, n, many))
			joins(t, trail.Back(of), of)
			from := r.Intn(n + 1)
			part := slices.Clone(of[from : from+r.Intn(n+1-from)])
			if !trail.Joins(part, of) {
				t.Fatalf("Joins(%v, %v) = false, but it stands there", part, of)
			}
			if len(part) > 1 {
				part[r.Intn(len(part))] = -9
				if trail.Joins(part, of) {
					t.Fatalf("Joins(%v, %v) = true, but -9 stands nowhere", part, of)
				}
			}
		}
	}
}

// P11.1: the chapter's examples.
func TestExamples(t *testing.T) {
	if got := trail.Erase([]int{1, 2, 3, 2, 4}); !same(got, []int{1, 2, 4}) {
		t.Errorf("Erase(1, 2, 3, 2, 4) = %v", got)
	}
	if got := trail.Erase([]int{1, 2, 1}); !same(got, []int{1}) {
		t.Errorf("Erase(1, 2, 1) = %v", got)
	}
	of := []int{3, 1, 2}
	if !trail.Joins([]int{1, 2}, of) {
		t.Error("Joins((1, 2), (3, 1, 2)) = false")
	}
	if trail.Joins([]int{2, 1}, of) {
		t.Error("Joins((2, 1), (3, 1, 2)) = true")
	}
}

// P11.1: answers of Erase written out: rounds within rounds and across each other, trails that end where they begin, one place over and over.
func TestEraseAtEdges(t *testing.T) {
	for _, c := range []struct{ t, want []int }{
		{[]int{4}, []int{4}},
		{[]int{4, 4}, []int{4}},
		{[]int{4, 4, 4, 4, 4}, []int{4}},
		{[]int{1, 4, 4, 4, 2}, []int{1, 4, 2}},
		{[]int{1, 2, 3, 4, 1}, []int{1}},
		{[]int{1, 2, 1, 3, 1}, []int{1}},
		{[]int{0, 1, 2, 3, 2, 1, 4}, []int{0, 1, 4}},
		{[]int{0, 1, 2, 3, 2, 3, 2, 1, 0, 5}, []int{0, 5}},
		{[]int{0, 1, 2, 1, 3, 4, 3, 5}, []int{0, 1, 3, 5}},
		{[]int{1, 2, 3, 1, 2, 4}, []int{1, 2, 4}},
		{[]int{1, 2, 3, 1, 4, 2, 5}, []int{1, 4, 2, 5}},
		{[]int{1, 2, 3, 4, 2, 3, 5}, []int{1, 2, 3, 5}},
		{[]int{3, 1, 2}, []int{3, 1, 2}},
		{[]int{-1, math.MinInt, -1, math.MaxInt}, []int{-1, math.MaxInt}},
		{[]int{math.MaxInt, math.MinInt, math.MaxInt}, []int{math.MaxInt}},
	} {
		if got := trail.Erase(c.t); !same(got, c.want) {
			t.Errorf("Erase(%v) = %v, want %v", c.t, got, c.want)
		}
		if got, want := trail.Simple(c.t), same(c.t, c.want); got != want {
			t.Errorf("Simple(%v) = %v", c.t, got)
		}
	}
}

// P11.1: answers of Joins written out: steps the other way round, steps on the spot, places that stand there but not one behind the other.
func TestJoinsAtEdges(t *testing.T) {
	for _, c := range []struct {
		t, of []int
		want  bool
	}{
		{[]int{1, 2, 3}, []int{1, 2, 3}, true},
		{[]int{3, 2, 1}, []int{1, 2, 3}, false},
		{[]int{1, 2, 1}, []int{1, 2}, false},
		{[]int{1, 2, 1}, []int{2, 1, 2}, true},
		{[]int{1, 3}, []int{1, 2, 3}, false},
		{[]int{1, 2, 4}, []int{1, 2, 3, 2, 4}, true},
		{[]int{2, 3, 1, 2}, []int{3, 1, 2, 3}, true},
		{[]int{1, 2, 1, 2, 1, 2}, []int{2, 1, 2}, true},
		{[]int{1, 1}, []int{1}, false},
		{[]int{1, 1}, []int{1, 2, 1}, false},
		{[]int{1, 1, 1}, []int{1, 1}, true},
		{[]int{1, 2}, []int{2, 3, 1}, false},
		{[]int{0, 0}, []int{0}, false},
		{[]int{0, 0}, nil, false},
		{[]int{1, 2}, []int{}, false},
		{[]int{9}, nil, true},
		{[]int{9}, []int{1, 2}, true},
		{nil, []int{1, 2}, true},
		{[]int{}, []int{1}, true},
		{nil, nil, true},
		{[]int{math.MinInt, math.MaxInt}, []int{math.MinInt, math.MaxInt}, true},
		{[]int{math.MinInt, math.MaxInt}, []int{math.MaxInt, math.MinInt}, false},
		{[]int{1 << 32, 0}, []int{0, 0}, false},
		{[]int{0, -1}, []int{0, math.MaxInt32}, false},
	} {
		if got := trail.Joins(c.t, c.of); got != c.want {
			t.Errorf("Joins(%v, %v) = %v", c.t, c.of, got)
		}
	}
}

// P11.1: Place is the first of several, at the front, at the back and nowhere.
func TestPlaceAtEdges(t *testing.T) {
	l := []int{5, 6, 6, -1, math.MinInt, 5, math.MaxInt}
	for _, c := range []struct{ n, want int }{
		{5, 0}, {6, 1}, {-1, 3}, {math.MinInt, 4}, {math.MaxInt, 6}, {0, -1}, {1, -1}, {-2, -1}, {math.MaxInt - 1, -1}, {math.MinInt + 1, -1},
	} {
		if got := trail.Place(l, c.n); got != c.want {
			t.Errorf("Place(%v, %d) = %d, want %d", l, c.n, got, c.want)
		}
	}
}

// P11.1, R1, R4: nil and empty trails mean the same, and one place has no step.
func TestTrailsWithoutSteps(t *testing.T) {
	nones := [][]int{nil, {}, make([]int, 0, 3)}
	for _, none := range nones {
		if !trail.Simple(none) {
			t.Error("Simple of none: false")
		}
		if l := trail.Erase(none); len(l) != 0 {
			t.Errorf("Erase of none: %v", l)
		}
		if l := trail.Back(none); len(l) != 0 {
			t.Errorf("Back of none: %v", l)
		}
		for _, n := range edges() {
			if at := trail.Place(none, n); at != -1 {
				t.Errorf("Place(none, %d) = %d", n, at)
			}
			if !trail.Joins([]int{n}, none) || !trail.Joins(none, []int{n}) {
				t.Errorf("none and %d don't join", n)
			}
			if trail.Joins([]int{n, n}, none) {
				t.Errorf("%d, %d joins none", n, n)
			}
			one := []int{n}
			if !trail.Simple(one) || !same(trail.Erase(one), one) || !same(trail.Back(one), one) || trail.Place(one, n) != 0 {
				t.Errorf("one place, %d: %v, %v, %v", n, trail.Simple(one), trail.Erase(one), trail.Back(one))
			}
		}
		for _, other := range nones {
			if !trail.Joins(none, other) {
				t.Error("none doesn't join none")
			}
		}
	}
}

// P11.2: simple, from the same place to the same place, by steps that were made; what is simple stays.
func TestErased(t *testing.T) {
	lists([]int{0, 1, 2, math.MinInt}, 7, func(l []int) { erased(t, l) })
	r := rand.New(rand.NewSource(113))
	for n := range 160 {
		for _, many := range []int{1, 2, 6, 30, 1000} {
			erased(t, drawn(r, n, many))
		}
		simple := r.Perm(n)
		if !trail.Simple(simple) || !same(trail.Erase(simple), simple) {
			t.Fatalf("%v is simple: Erase makes it %v", simple, trail.Erase(simple))
		}
		erased(t, append(simple, trail.Back(simple)...))
	}
}

// P11.1, R1: very long trails, simple ones and such as turn round at their end.
func TestVeryLongTrails(t *testing.T) {
	const n = 1 << 18
	there := counted(n)
	if !trail.Simple(there) || !same(trail.Erase(there), there) {
		t.Error("a long simple trail isn't simple")
	}
	back := trail.Back(there)
	if back[0] != n-1 || back[n-1] != 0 || !trail.Simple(back) {
		t.Error("the long way back isn't one")
	}
	if !trail.Joins(there, there) || trail.Joins(back, there) {
		t.Error("the long way there joins itself, and the way back doesn't join it")
	}
	whole := append(slices.Clone(there), back...)
	if trail.Simple(whole) || !same(trail.Erase(whole), []int{0}) || !trail.Joins(back, whole) {
		t.Error("there and back again is one round")
	}
	if trail.Place(whole, n-1) != n-1 || trail.Place(whole, n) != -1 {
		t.Error("where the long way turns")
	}
}

// roomy is a trail with spare room behind it, and the whole of its memory.
func roomy(l []int) (list, whole []int) {
	whole = append(slices.Clone(l), 70, 71, 72)
	return whole[:len(l)], whole
}

// R3: what is handed in is left as it is, its spare room too.
func TestArgumentsStay(t *testing.T) {
	r := rand.New(rand.NewSource(3))
	for n := range 40 {
		l, whole := roomy(drawn(r, n, 6))
		of, wholeOf := roomy(drawn(r, n, 6))
		was, wasOf := slices.Clone(whole), slices.Clone(wholeOf)
		trail.Simple(l)
		trail.Erase(l)
		trail.Back(l)
		trail.Place(l, 3)
		trail.Joins(l, of)
		trail.Joins(l, l)
		if !same(whole, was) || !same(wholeOf, wasOf) {
			t.Fatalf("handed in %v and %v, afterwards %v and %v", was, wasOf, whole, wholeOf)
		}
	}
}

// spoil changes a list, its spare room too.
func spoil(l []int) {
	l = l[:cap(l)]
	for i := range l {
		l[i] = 99
	}
}

// R3: an answer is memory of its own, also where nothing is taken out or turned.
func TestAnswersAreNewMemory(t *testing.T) {
	for _, ask := range []func(l []int) []int{trail.Erase, trail.Back} {
		for _, of := range [][]int{nil, {4}, {4, 4}, {1, 2}, {1, 2, 3}, {1, 2, 1}, {1, 2, 3, 2, 4}, {1, 2, 3, 3}} {
			l, whole := roomy(of)
			was := slices.Clone(whole)
			got, again := ask(l), ask(l)
			want := slices.Clone(again)
			spoil(got)
			if !same(whole, was) || !same(again, want) {
				t.Errorf("of %v: the answer was changed, and with it %v, %v", of, whole, again)
			}
			spoil(whole)
			if !same(again, want) {
				t.Errorf("of %v: the argument was changed, and with it %v", of, again)
			}
		}
	}
}

// R2: a trail that is changed between two calls is a new one: nothing is kept of the old one.
func TestNothingIsKept(t *testing.T) {
	l, of := []int{1, 2, 3, 2, 4}, []int{1, 2, 4}
	if trail.Simple(l) || !trail.Joins(of, l) || trail.Place(l, 2) != 1 {
		t.Fatal("ahead of the change")
	}
	l[3] = 5
	if !trail.Simple(l) || !same(trail.Erase(l), l) || trail.Joins(of, l) || trail.Place(l, 5) != 3 {
		t.Error("behind the change")
	}
	of[1], of[2] = 2, 3
	if !trail.Joins(of, l) {
		t.Error("behind both changes")
	}
}

// R2: what was asked earlier, and how often, changes no answer.
func TestAskedAgain(t *testing.T) {
	r := rand.New(rand.NewSource(2))
	for n := range 40 {
		l, of := drawn(r, n, 5), drawn(r, n, 5)
		e, b, s, p, j := trail.Erase(l), trail.Back(l), trail.Simple(l), trail.Place(l, 2), trail.Joins(l, of)
		for range 5 {
			holds(t, of)
			if !same(trail.Erase(l), e) || !same(trail.Back(l), b) || trail.Simple(l) != s || trail.Place(l, 2) != p || trail.Joins(l, of) != j {
				t.Fatalf("%v and %v: asked again, it answers otherwise", l, of)
			}
		}
	}
}
