package seek_test

import (
	"bytes"
	"math/rand"
	"slices"
	"testing"

	"annulet/api"
	"annulet/ring"
	"annulet/seek"
)

// toldWant are those of all that are known whom the node wants.
func toldWant(self api.ID, friends []api.ID, cands []seek.Cand, half int) []api.ID {
	known := toldKnown(self, friends, cands)
	var l []api.ID
	for _, x := range known {
		if toldWanted(self, x, known, half) {
			l = append(l, x)
		}
	}
	return l
}

// holds looks at one answer of Asks by what P17.2 and P17.3 say of it, without working out which one it should be.
func holds(t *testing.T, self api.ID, friends []api.ID, cands []seek.Cand, half int) []seek.Cand {
	t.Helper()
	asked := seek.Asks(self, friends, cands, half)
	wanted := toldWant(self, friends, cands, half)
	for i, x := range asked {
		switch {
		case x.ID == self:
			t.Fatalf("Asks(%x, %x, %v, %d) asks for itself", self, friends, cands, half)
		case slices.Contains(friends, x.ID):
			t.Fatalf("Asks(%x, %x, %v, %d) asks for the friend %x", self, friends, cands, half, x.ID)
		case !slices.Contains(wanted, x.ID):
			t.Fatalf("Asks(%x, %x, %v, %d) asks for %x, who isn't wanted", self, friends, cands, half, x.ID)
		case !slices.Contains(cands, x):
			t.Fatalf("Asks(%x, %x, %v, %d) asks for %v, who is no candidate", self, friends, cands, half, x)
		case i > 0 && bytes.Compare(asked[i-1].ID[:], x.ID[:]) >= 0:
			t.Fatalf("Asks(%x, %x, %v, %d) = %v, not rising, or one twice", self, friends, cands, half, asked)
		}
	}
	have := append(slices.Clone(friends), ids(asked)...)
	for _, x := range wanted {
		// Of nobody who is asked for this is just P17.3; of some it is why it holds.
		if !slices.Contains(have, x) {
			t.Fatalf("Asks(%x, %x, %v, %d) = %v: %x is wanted, and neither a friend nor asked for", self, friends, cands, half, asked, x)
		}
	}
	return asked
}

// P17.2, P17.3: at all short lists, with every half.
func TestPromisesOfShortLists(t *testing.T) {
	pool := []seek.Cand{direct(1, 1), told(1, 1), least(4, 0), direct(5, 2), told(6, 2), {ID: small(9), Leg: 2}, {ID: api.ID{0: 200}, Leg: -1}}
	lists(smalls(1, 5, 6, 8), 3, func(friends []api.ID) {
		lists(pool, 3, func(cands []seek.Cand) {
			for half := -1; half <= 3; half++ {
				holds(t, small(5), friends, cands, half)
			}
		})
	})
}

// P17.2, P17.3: at long lists.
func TestPromisesOfLongLists(t *testing.T) {
	r := rand.New(rand.NewSource(172))
	nobody := 0
	for n := range 150 {
		for _, many := range []int{1, 4, 12, 300} {
			cands, self := drawnCands(r, n, many), drawnID(r, many)
			friends := drawnIDs(r, r.Intn(2*n+1), many)
			if len(holds(t, self, friends, cands, drawnHalf(r, n))) == 0 {
				nobody++
			}
		}
	}
	if nobody < 50 {
		t.Errorf("nobody was asked for just %d times", nobody)
	}
}

// P17.2: those that are asked for are just those that layer 10 wants and that aren't friends, each once.
func TestAskedAreWanted(t *testing.T) {
	r := rand.New(rand.NewSource(173))
	for n := range 120 {
		cands, friends, self, half := drawnCands(r, n, 60), drawnIDs(r, n/4, 60), drawnID(r, 60), drawnHalf(r, n)
		want := ring.Want(self, append(ids(cands), friends...), half)
		want = slices.DeleteFunc(want, func(x api.ID) bool { return ring.Has(friends, x) })
		if got := ids(seek.Asks(self, friends, cands, half)); !slices.Equal(got, want) {
			t.Fatalf("Asks(%x, %x, %v, %d) = %x, want %x", self, friends, cands, half, got, want)
		}
	}
}

// P17.3: those that were asked for are friends in the next call: then nobody is asked for any more.
func TestAskedAreFriendsNext(t *testing.T) {
	r := rand.New(rand.NewSource(174))
	for n := range 120 {
		for _, many := range []int{3, 12, 300} {
			cands, friends, self := drawnCands(r, n, many), drawnIDs(r, r.Intn(n/3+1), many), drawnID(r, many)
			half := drawnHalf(r, n)
			have := append(slices.Clone(friends), ids(holds(t, self, friends, cands, half))...)
			if again := holds(t, self, have, cands, half); len(again) != 0 {
				t.Fatalf("Asks(%x, %x, %v, %d) = %v, whose others were asked for and are friends", self, have, cands, half, again)
			}
		}
	}
}

// P17.3: just one of those that were asked for becomes a friend in each call: the others are asked for still, by the same.
func TestOneFriendAtATime(t *testing.T) {
	r := rand.New(rand.NewSource(175))
	for n := range 60 {
		cands, friends, self, half := drawnCands(r, n, 30), drawnIDs(r, n/5, 30), drawnID(r, 30), 1+r.Intn(5)
		left := holds(t, self, friends, cands, half)
		for len(left) > 0 {
			at := r.Intn(len(left))
			friends = append(friends, left[at].ID)
			left = slices.Delete(left, at, at+1)
			if got := holds(t, self, friends, cands, half); !slices.Equal(got, left) {
				t.Fatalf("Asks(%x, %x, %v, %d) = %v, want %v", self, friends, cands, half, got, left)
			}
		}
	}
}

// P17.1 to P17.3: rows of calls in which candidates come and go, those who were asked for become friends, and friends are lost.
func TestRowsOfCalls(t *testing.T) {
	r := rand.New(rand.NewSource(176))
	for range 60 {
		var friends []api.ID
		var cands []seek.Cand
		self, half := drawnID(r, 20), 1+r.Intn(api.MaxHalf)
		for range 40 {
			switch r.Intn(4) {
			case 0, 1:
				cands = append(cands, drawnCands(r, r.Intn(4), 20)...)
			case 2:
				cands = slices.DeleteFunc(cands, func(seek.Cand) bool { return r.Intn(4) == 0 })
			case 3:
				friends = slices.DeleteFunc(friends, func(api.ID) bool { return r.Intn(4) == 0 })
			}
			asks(t, self, friends, cands, half)
			for _, x := range holds(t, self, friends, cands, half) {
				if r.Intn(3) > 0 {
					friends = append(friends, x.ID)
				}
			}
		}
	}
}

// P17.3: each of a world knows the one that stands next and the friends of its friends, and becomes a friend of whoever asks for it: when nobody is asked for any more, all whom each wants of the whole world are friends.
func TestWorldThatTells(t *testing.T) {
	r := rand.New(rand.NewSource(177))
	for range 40 {
		world := toldSet(drawnIDs(r, 2+r.Intn(8), 400))
		half := 1 + r.Intn(api.MaxHalf)
		friends := make([][]api.ID, len(world))
		known := func(at int) []seek.Cand {
			var cands []seek.Cand
			if next, there := ring.Next(world[at], world); there {
				cands = append(cands, seek.Cand{ID: next, Leg: seek.Least})
			}
			for other, id := range world {
				if !slices.Contains(friends[at], id) {
					continue
				}
				for _, x := range friends[other] {
					cands = append(cands, seek.Cand{ID: x, Leg: seek.Told, P: api.Path{Who: id}})
				}
			}
			return cands
		}
		for asked := true; asked; {
			asked = false
			for at, self := range world {
				for _, x := range holds(t, self, friends[at], known(at), half) {
					to := slices.Index(world, x.ID)
					asked = true
					friends[at] = append(friends[at], x.ID)
					if !slices.Contains(friends[to], self) {
						friends[to] = append(friends[to], self)
					}
				}
			}
		}
		for at, self := range world {
			for _, x := range ring.Want(self, world, half) {
				if !slices.Contains(friends[at], x) {
					t.Fatalf("of %x, half %d: %x wants %x, and has just %x", world, half, self, x, friends[at])
				}
			}
		}
	}
}

// P17.1: in whatever order friends stand, and however often; candidates of unlike identities too.
func TestInEveryOrder(t *testing.T) {
	r := rand.New(rand.NewSource(178))
	for n := range 60 {
		friends, self, half := drawnIDs(r, n/3, 40), drawnID(r, 40), drawnHalf(r, n)
		cands := slices.DeleteFunc(drawnCands(r, n, 400), func(x seek.Cand) bool { return x.ID == self })
		slices.SortStableFunc(cands, func(a, b seek.Cand) int { return bytes.Compare(a.ID[:], b.ID[:]) })
		cands = slices.CompactFunc(cands, func(a, b seek.Cand) bool { return a.ID == b.ID })
		want := seek.Asks(self, friends, cands, half)
		for range 6 {
			friends = append(friends, friends[:len(friends)/2]...)
			r.Shuffle(len(friends), func(i, j int) { friends[i], friends[j] = friends[j], friends[i] })
			r.Shuffle(len(cands), func(i, j int) { cands[i], cands[j] = cands[j], cands[i] })
			if got := seek.Asks(self, friends, cands, half); !slices.Equal(got, want) {
				t.Fatalf("Asks(%x, %x, %v, %d) = %v, in another order %v", self, friends, cands, half, got, want)
			}
		}
	}
}

// R2: the same, asked again, whatever was asked between.
func TestNothingIsKept(t *testing.T) {
	r := rand.New(rand.NewSource(179))
	type call struct {
		self    api.ID
		friends []api.ID
		cands   []seek.Cand
		half    int
		want    []seek.Cand
	}
	var calls []call
	for n := range 80 {
		c := call{self: drawnID(r, 20), friends: drawnIDs(r, n/4, 20), cands: drawnCands(r, n, 20), half: drawnHalf(r, n)}
		c.want = seek.Asks(c.self, c.friends, c.cands, c.half)
		calls = append(calls, c)
	}
	for range 3 {
		r.Shuffle(len(calls), func(i, j int) { calls[i], calls[j] = calls[j], calls[i] })
		for _, c := range calls {
			if got := seek.Asks(c.self, c.friends, c.cands, c.half); !slices.Equal(got, c.want) {
				t.Fatalf("Asks(%x, %x, %v, %d) = %v, ahead of that %v", c.self, c.friends, c.cands, c.half, got, c.want)
			}
		}
	}
}

// roomy is a list with the same elements and with spare room, filled with a mark.
func roomy[T any](l []T, spare int, mark T) []T {
	all := slices.Clone(l)
	for range spare {
		all = append(all, mark)
	}
	return all[:len(l)]
}

func whole[T any](l []T) []T { return slices.Clone(l[:cap(l)]) }

// R3: what is handed in stays as it is, its spare room too.
func TestArgumentsStay(t *testing.T) {
	r := rand.New(rand.NewSource(180))
	mark := seek.Cand{ID: small(6), Leg: -77, N: -77, P: api.Path{N: -77}}
	for n := range 100 {
		friends := roomy(drawnIDs(r, n/3, 20), 2*n+3, small(6))
		cands := roomy(drawnCands(r, n, 20), 2*n+3, mark)
		wasFriends, wasCands := whole(friends), whole(cands)
		for _, half := range []int{-1, 0, 1, 3, n} {
			seek.Asks(drawnID(r, 20), friends, cands, half)
			if !slices.Equal(whole(friends), wasFriends) || !slices.Equal(whole(cands), wasCands) {
				t.Fatalf("what was handed in was changed: %d friends, %d candidates, half %d", len(friends), n, half)
			}
		}
	}
}

// spoil changes all of a list, its spare room too.
func spoil(l []seek.Cand) {
	l = l[:cap(l)]
	for i := range l {
		l[i] = seek.Cand{ID: small(99), Leg: 99, N: 99, P: api.Path{N: 99}}
	}
}

// R3: an answer shares no memory with what was handed in, nor with another answer.
func TestAnswersAreNewMemory(t *testing.T) {
	r := rand.New(rand.NewSource(181))
	for n := range 100 {
		for _, half := range []int{0, 1, 2, n} {
			friends := roomy(drawnIDs(r, n/3, 20), n+3, small(6))
			cands := roomy(drawnCands(r, n, 20), n+3, seek.Cand{Leg: -77})
			wasFriends, wasCands, self := whole(friends), whole(cands), drawnID(r, 20)
			first, second := seek.Asks(self, friends, cands, half), seek.Asks(self, friends, cands, half)
			kept := whole(second)
			spoil(first)
			if !slices.Equal(whole(second), kept) {
				t.Fatalf("two answers share memory: %d candidates, half %d", n, half)
			}
			spoil(second)
			if !slices.Equal(whole(friends), wasFriends) || !slices.Equal(whole(cands), wasCands) {
				t.Fatalf("an answer shares memory with what was handed in: %d candidates, half %d", n, half)
			}
			asks(t, self, friends, cands, half)
		}
	}
}

// R3: what is handed in may be changed behind a call: the answer stays.
func TestAnswerOutlivesArguments(t *testing.T) {
	r := rand.New(rand.NewSource(182))
	for n := range 60 {
		friends, cands, self := drawnIDs(r, n/3, 20), drawnCands(r, n, 20), drawnID(r, 20)
		got := seek.Asks(self, friends, cands, 2)
		want := slices.Clone(got)
		spoil(cands)
		for i := range friends {
			friends[i] = small(98)
		}
		if !slices.Equal(got, want) {
			t.Fatalf("the answer changed with what was handed in: %v, it was %v", got, want)
		}
	}
}
