package watch_test

import (
	"bytes"
	"math/big"
	"slices"

	"annulet/api"
	"annulet/frame"
	"annulet/world"
)

// teller tells a second time what watch tells: numbers are without bounds here, whom one reaches comes of a table of all pairs, and whom one wants of how many are met ahead.
type teller struct {
	vs     []world.View
	linked func(a, b int) bool
}

func (x teller) runs(a int) bool { return a >= 0 && a < len(x.vs) && x.vs[a].Up }

func (x teller) paired(a, b int) bool {
	if !x.runs(a) || !x.runs(b) || b >= len(x.vs[a].Ends) || a >= len(x.vs[b].Ends) {
		return false
	}
	e, f := x.vs[a].Ends[b], x.vs[b].Ends[a]
	return e.Up && f.Up && e.Mine == f.Peer && f.Mine == e.Peer
}

// isAbove tells whether a number and so many more are above another number.
func isAbove(number int64, more int, other int64) bool {
	sum := new(big.Int).Add(big.NewInt(number), big.NewInt(int64(more)))
	return sum.Cmp(big.NewInt(other)) > 0
}

func (x teller) owes(a, b int, p api.Path) bool {
	if !x.paired(a, b) {
		return false
	}
	owed := false
	for i, text := range x.vs[a].Ends[b].Out {
		if !isAbove(x.vs[a].Ends[b].Base, i, x.vs[b].Ends[a].Got) {
			continue
		}
		f, _ := frame.Decode(text)
		body, _ := frame.Of(f)
		switch f := body.(type) {
		case frame.Setup:
			owed = owed || f.P == p
		case frame.Drop:
			owed = owed || f.P == p
		}
	}
	return owed
}

func (x teller) stands(a int, e api.Entry, towardA bool) bool {
	b := map[bool]int{true: e.Na, false: e.Nb}[towardA]
	if b < 0 || !x.paired(a, b) || x.owes(a, b, e.P) || x.owes(b, a, e.P) {
		return true
	}
	for _, other := range x.vs[b].Entries {
		if other.P == e.P {
			back := map[bool]int{true: other.Nb, false: other.Na}[towardA]
			return back == a
		}
	}
	return false
}

func (x teller) traced() bool {
	for a, v := range x.vs {
		for _, e := range v.Entries {
			if !x.stands(a, e, true) || !x.stands(a, e, false) {
				return false
			}
		}
	}
	return true
}

func (x teller) settled() bool {
	for a, v := range x.vs {
		for b := range x.vs {
			if a == b || !x.runs(a) || !x.runs(b) || !x.linked(a, b) {
				continue
			}
			if !x.paired(a, b) || !v.Ends[b].Open || isAbove(v.Ends[b].Base, len(v.Ends[b].Out)-1, x.vs[b].Ends[a].Got) {
				return false
			}
		}
		for _, e := range v.Entries {
			for _, n := range []int{e.Na, e.Nb} {
				if n >= 0 && !(x.paired(a, n) && x.linked(a, n)) {
					return false
				}
			}
		}
	}
	return true
}

func (x teller) reach(a int) []int {
	n := len(x.vs)
	can := make([][]bool, n)
	for i := range can {
		can[i] = make([]bool, n)
		for j := range can[i] {
			can[i][j] = x.runs(i) && x.runs(j) && (i == j || x.linked(i, j))
		}
	}
	for over := range n {
		for i := range n {
			for j := range n {
				can[i][j] = can[i][j] || can[i][over] && can[over][j]
			}
		}
	}
	var l []int
	for j := range n {
		if a >= 0 && a < n && can[a][j] {
			l = append(l, j)
		}
	}
	return l
}

// rising are identities in order, each once, without one.
func rising(without api.ID, ids []api.ID) []api.ID {
	var l []api.ID
	for _, id := range ids {
		if id != without && !slices.Contains(l, id) {
			l = append(l, id)
		}
	}
	slices.SortFunc(l, func(a, b api.ID) int { return bytes.Compare(a[:], b[:]) })
	return l
}

// steps is how far it is clockwise from one identity to another.
func steps(from, to api.ID) *big.Int {
	d := new(big.Int).Sub(new(big.Int).SetBytes(to[:]), new(big.Int).SetBytes(from[:]))
	return d.Mod(d, new(big.Int).Lsh(big.NewInt(1), 128))
}

// wanted are the virtual neighbours that one should have, of these.
func wanted(self api.ID, ids []api.ID, half int) []api.ID {
	all := rising(self, ids)
	var l []api.ID
	for _, id := range all {
		ahead, behind := 0, 0
		for _, other := range all {
			switch steps(self, other).Cmp(steps(self, id)) {
			case -1:
				ahead++
			case 1:
				behind++
			}
		}
		if ahead < half || behind < half {
			l = append(l, id)
		}
	}
	return l
}

// own are the other ends of the entries of paths that end at a node, one for each.
func own(v world.View) []api.ID {
	var l []api.ID
	for _, e := range v.Entries {
		switch {
		case e.Na == -1:
			l = append(l, e.B)
		case e.Nb == -1:
			l = append(l, e.A)
		}
	}
	return l
}

func friends(v world.View) []api.ID { return rising(v.ID, own(v)) }

func (x teller) ringed(half int) bool {
	for a, v := range x.vs {
		if !v.Up {
			continue
		}
		var ids []api.ID
		for _, b := range x.reach(a) {
			ids = append(ids, x.vs[b].ID)
		}
		if len(own(v)) != len(friends(v)) || !slices.Equal(friends(v), wanted(v.ID, ids, half)) {
			return false
		}
	}
	return true
}
