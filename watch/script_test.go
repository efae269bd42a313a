package watch_test

import (
	"math/rand"
	"slices"
	"testing"

	"annulet/api"
	"annulet/world"
)

// script draws ops for a world, and does them.
type script struct {
	*bench
	draw
	often [world.Calm + 1]int // how often which kind comes
	held  map[[2]int]bool     // between whom nothing arrives for now
}

// identity is any, or one that is near to others, or on another side of the ring.
func (d draw) identity() api.ID {
	var id api.ID
	switch d.Intn(3) {
	case 0:
		d.Read(id[:])
	case 1:
		id[15] = byte(d.Intn(16))
	case 2:
		id[0] = byte(d.Intn(256))
	}
	return id
}

// config is a world's of so many nodes.
func (d draw) config(nodes, paths int) world.Config {
	c := world.Config{Half: 1 + d.Intn(3), Paths: paths, Disk: of(d, 3, 6, 20, 200)}
	for len(c.IDs) < nodes {
		if id := d.identity(); !slices.Contains(c.IDs, id) {
			c.IDs = append(c.IDs, id)
		}
	}
	return c
}

// newScript is one in which each kind comes as often as it is drawn: some not at all, others every other time.
func newScript(t *testing.T, d draw, c world.Config) *script {
	s := &script{bench: begin(t, c), draw: d}
	for kind := range s.often {
		s.often[kind] = of(d, 0, 1, 1, 2, 5, 15)
	}
	s.often[0] = 0
	s.often[world.Tick] += 10 + d.Intn(20)
	s.often[world.Take] += 20 + d.Intn(60)
	s.often[world.Boot] += s.often[world.Crash]
	s.often[world.Link] += s.often[world.Cut]
	s.often[world.Power] = of(d, 0, 0, 1, 2)
	s.often[world.Calm] = of(d, 0, 0, 0, 1)
	return s
}

// begins lets all run, linked in a row, a ring, a star, at random, or not at all.
func (s *script) begins() {
	s.t.Helper()
	n, shape := s.nodes(), s.Intn(6)
	for a := range n {
		s.play(boot(a))
		for b := range a {
			row := a == b+1
			up := []bool{row, row || a == n-1 && b == 0, b == 0, row || s.Intn(2) == 0, s.Intn(3) == 0, false}[shape]
			if up {
				s.play(link(a, b))
			}
		}
	}
	if s.Intn(2) == 0 {
		s.play(calm(1 + s.Intn(2*n)))
	}
}

// holds says anew between whom nothing arrives for now.
func (s *script) holds() {
	s.held = map[[2]int]bool{}
	for a := range s.nodes() {
		for b := range s.nodes() {
			s.held[[2]int{a, b}] = s.Intn(4) == 0
		}
	}
}

// kind is one of those that come, the more often they do.
func (s *script) kind() int {
	sum := 0
	for _, n := range s.often {
		sum += n
	}
	at := s.Intn(sum)
	for kind, n := range s.often {
		if at -= n; at < 0 {
			return kind
		}
	}
	return 0
}

// somePair are two between whom something is under way, if a few draws find any.
func (s *script) somePair() (int, int) {
	for range 12 {
		a, b := s.Intn(s.nodes()), s.Intn(s.nodes())
		if len(s.Flying(a, b)) > 0 && !s.held[[2]int{a, b}] {
			return a, b
		}
	}
	return 0, 0
}

func (s *script) op() world.Op {
	o := world.Op{Kind: s.kind(), A: s.Intn(s.nodes()), B: s.Intn(s.nodes())}
	switch o.Kind {
	case world.Take, world.Lose, world.Twice:
		o.A, o.B = s.somePair()
		o.I = of(s.draw, 0, 0, 0, 1, s.Intn(256), -1)
	case world.Ask:
		o.I = 1 + s.Intn(3)
		o.ID = of(s.draw, of(s.draw, s.c.IDs...), s.identity())
		if o.I != api.OpGet {
			o.Text = []byte("text")
		}
	case world.Power:
		o.I = s.Intn(12) - 1
	case world.Calm:
		o.I = 1 + s.Intn(3)
	}
	return o
}

// goes does so many ops.
func (s *script) goes(ops int) {
	s.t.Helper()
	for i := range ops {
		if i%50 == 0 {
			s.holds()
		}
		s.play(s.op())
	}
}

// scripts plays scripts that are drawn, each by itself.
func scripts(t *testing.T, from, many int, play func(t *testing.T, d draw)) {
	for seed := from; seed < from+many; seed++ {
		play(t, draw{rand.New(rand.NewSource(int64(seed)))})
	}
}
