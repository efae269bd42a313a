package watch_test

import (
	"testing"

	"annulet/api"
	"annulet/frame"
	"annulet/node"
	"annulet/world"
)

// spot is an identity; the spots 0 to 255 stand in order, all around the ring.
func spot(n byte) api.ID { return api.ID{n} }

// key is a path's.
func key(n int64) api.Path { return api.Path{Who: spot(0x10), N: n} }

// text is a frame's bytes.
func text(b frame.Body) []byte {
	l, e := frame.Encode(frame.Plain(b))
	if e != api.OK {
		panic(e)
	}
	return l
}

func setup(p api.Path) []byte {
	return text(frame.Setup{P: p, A: spot(0x10), B: spot(0x20), Trail: []int{0, 1, 2}})
}

func drop(p api.Path) []byte { return text(frame.Drop{P: p}) }

// others are texts that are neither a Setup nor a Drop of a path, though most of them name it.
func others(p api.Path) [][]byte {
	d, s := drop(p), setup(p)
	item := api.Item{Key: p.Who, Ver: api.Ver{N: p.N, Who: p.Who}}
	else1, else2 := api.Path{Who: spot(0x11), N: p.N}, api.Path{Who: p.Who, N: p.N + 1}
	return [][]byte{
		nil, {}, {1}, {1, 5}, d[:len(d)-1], s[:len(s)-1], append([]byte{1, 0}, d...), append(drop(p), 0), append(setup(p), 0), {1, 13}, []byte("text"),
		drop(else1), drop(else2), setup(else1), setup(else2),
		text(frame.Part{P: p, ToA: true}), text(frame.Part{P: p}), text(frame.Peers{P: p, IDs: []api.ID{p.Who}}),
		text(frame.Ask{Who: p.Who, Want: p.Who, Leg: 1, P: p, Trail: []int{0}}), text(frame.Advert{ID: p.Who, Far: p.N}),
		text(frame.Copy{P: p, Item: item}), text(frame.Got{P: p, Key: p.Who, Ver: item.Ver}),
		text(frame.Hello{Mine: api.Num{Inc: 1, N: p.N}, ID: p.Who}), text(frame.Ack{From: api.Num{Inc: 1, N: 1}, N: p.N}),
		text(frame.Data{N: p.N, Text: drop(p)}), text(frame.Packet{Src: p.Who, Dst: p.Who, Op: api.OpSend, Req: p.N, Text: drop(p)}),
	}
}

// hand is a world's views, made by hand, and the links of that world.
type hand struct {
	vs    []world.View
	links [][]bool
}

// nodes are so many that run, at the spots 0x10, 0x20 .., with an end to each, none of them up.
func nodes(n int) *hand {
	h := &hand{}
	for a := range n {
		h.vs = append(h.vs, world.View{Up: true, ID: spot(byte(16 * (a + 1))), Inc: 1, Ends: make([]node.End, n)})
		h.links = append(h.links, make([]bool, n))
	}
	return h
}

// linked may be asked for places that are there alone: of others it panics.
func (h *hand) linked(a, b int) bool { return h.links[a][b] }

func (h *hand) link(a, b int, up bool) *hand {
	h.links[a][b], h.links[b][a] = up, up
	return h
}

// meet links two, and lets a session of theirs be open at both.
func (h *hand) meet(a, b int) *hand {
	one, other := api.Num{Inc: 1, N: int64(b + 1)}, api.Num{Inc: 2, N: int64(a + 1)}
	h.vs[a].Ends[b] = node.End{Up: true, Open: true, Mine: one, Peer: other, ID: h.vs[b].ID, Base: 1}
	h.vs[b].Ends[a] = node.End{Up: true, Open: true, Mine: other, Peer: one, ID: h.vs[a].ID, Base: 1}
	return h.link(a, b, true)
}

// row is so many nodes, each in session with the next one.
func row(n int) *hand {
	h := nodes(n)
	for a := 1; a < n; a++ {
		h.meet(a-1, a)
	}
	return h
}

func (h *hand) end(a, b int) *node.End { return &h.vs[a].Ends[b] }

// waits lets texts wait at a's end to b, behind so many that came.
func (h *hand) waits(a, b int, came int64, texts ...[]byte) *hand {
	h.end(a, b).Base, h.end(a, b).Out = came+1, texts
	h.end(b, a).Got = came
	return h
}

func (h *hand) keeps(a int, l ...api.Entry) *hand {
	h.vs[a].Entries = append(h.vs[a].Entries, l...)
	return h
}

// entry is one of a path between the first place's node and another's.
func entry(p api.Path, na, nb int) api.Entry {
	return api.Entry{P: p, A: spot(0x10), B: spot(0x20), Na: na, Nb: nb}
}

// lay lays a path along a way.
func (h *hand) lay(p api.Path, way ...int) *hand {
	for i, a := range way {
		x := api.Entry{P: p, A: h.vs[way[0]].ID, B: h.vs[way[len(way)-1]].ID, Na: -1, Nb: -1}
		if i > 0 {
			x.Na = way[i-1]
		}
		if i < len(way)-1 {
			x.Nb = way[i+1]
		}
		h.keeps(a, x)
	}
	return h
}

// way is a shortest one from a place to another, over those that are linked; none, if there is none.
func (h *hand) way(from, to int) []int {
	ways := [][]int{{from}}
	met := map[int]bool{from: true}
	for i := 0; i < len(ways); i++ {
		w := ways[i]
		at := w[len(w)-1]
		if at == to {
			return w
		}
		for b := range h.vs {
			if !met[b] && h.links[at][b] {
				met[b] = true
				ways = append(ways, append(w[:len(w):len(w)], b))
			}
		}
	}
	return nil
}

// ring lays a path between any two that want each other, of those that reach each other.
func (h *hand) ring(half int) *hand {
	x := teller{h.vs, h.linked}
	laid := int64(0)
	for a := range h.vs {
		var ids []api.ID
		for _, b := range x.reach(a) {
			ids = append(ids, h.vs[b].ID)
		}
		for _, id := range wanted(h.vs[a].ID, ids, half) {
			for b := range a {
				if h.vs[b].ID == id {
					laid++
					h.lay(api.Path{Who: h.vs[a].ID, N: laid}, h.way(a, b)...)
				}
			}
		}
	}
	return h
}

// is looks at an answer.
func is(t *testing.T, what string, got, want bool) {
	t.Helper()
	if got != want {
		t.Errorf("%s is %v", what, got)
	}
}
