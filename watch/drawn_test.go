package watch_test

import (
	"math"
	"math/rand"
	"reflect"
	"slices"
	"testing"

	"annulet/api"
	"annulet/node"
	"annulet/watch"
	"annulet/world"
)

// draw draws views that are made by hand.
type draw struct{ *rand.Rand }

func of[T any](d draw, l ...T) T { return l[d.Intn(len(l))] }

// good is a world that stands as it should, by hand.
func (d draw) good() *hand {
	h := nodes(1 + d.Intn(5))
	dense := d.Intn(4)
	for a := range h.vs {
		for b := range a {
			if a == b+1 && dense > 0 || d.Intn(4) < dense {
				h.meet(a, b)
			}
			if d.Intn(4) == 0 {
				came := int64(d.Intn(3))
				h.waits(a, b, came, d.text(h), d.text(h))
				h.end(b, a).Got = came + 2
			}
		}
	}
	return h.ring(1 + d.Intn(2))
}

// place is one of a world's, mostly.
func (d draw) place(h *hand) int {
	if d.Intn(12) == 0 {
		return of(d, strange...)
	}
	return d.Intn(len(h.vs))
}

// path is one of those that are there, mostly.
func (d draw) path(h *hand) api.Path {
	v := of(d, h.vs...)
	if len(v.Entries) == 0 || d.Intn(8) == 0 {
		return key(int64(d.Intn(3)))
	}
	return of(d, v.Entries...).P
}

func (d draw) text(h *hand) []byte {
	p := d.path(h)
	return of(d, setup(p), drop(p), of(d, others(p)...))
}

func (d draw) entry(h *hand) api.Entry {
	return api.Entry{P: d.path(h), A: of(d, h.vs...).ID, B: of(d, h.vs...).ID, Na: d.place(h), Nb: d.place(h)}
}

// number is one that is near to another, mostly.
func (d draw) number(at int64) int64 {
	if d.Intn(8) == 0 {
		return of[int64](d, math.MinInt64, math.MinInt64+1, -1, 0, 1, math.MaxInt64-1, math.MaxInt64)
	}
	return at + int64(d.Intn(5)-2)
}

// anEnd is one of those that are there; nil, if there is none.
func (d draw) anEnd(v *world.View) *node.End {
	if len(v.Ends) == 0 {
		return nil
	}
	return &v.Ends[d.Intn(len(v.Ends))]
}

// breakEnd lets something of an end be another way.
func (d draw) breakEnd(h *hand, e *node.End) {
	switch d.Intn(8) {
	case 0:
		e.Up = !e.Up
	case 1:
		e.Open = !e.Open
	case 2:
		e.Mine.N += int64(d.Intn(2))
	case 3:
		e.Peer.Inc -= int64(d.Intn(2))
	case 4:
		e.Base = d.number(e.Base)
	case 5:
		e.Got = d.number(e.Got)
	default:
		e.Out = append(slices.Clone(e.Out), d.text(h))
	}
}

// breaks lets something of a world be another way.
func (d draw) breaks(h *hand) {
	v := &h.vs[d.Intn(len(h.vs))]
	switch d.Intn(11) {
	case 0:
		v.Up = !v.Up
	case 1:
		a, b := d.Intn(len(h.vs)), d.Intn(len(h.vs))
		h.link(a, b, !h.links[a][b])
	case 2:
		v.Ends = slices.Clone(v.Ends[:d.Intn(len(v.Ends)+1)])
	case 3:
		if i := d.Intn(4); i < len(v.Entries) {
			v.Entries = slices.Delete(v.Entries, i, i+1)
		}
	case 4:
		v.Entries = slices.Insert(v.Entries, d.Intn(len(v.Entries)+1), d.entry(h))
	case 5:
		if i := d.Intn(4); i < len(v.Entries) {
			x := &v.Entries[i]
			*of(d, &x.Na, &x.Nb) = d.place(h)
		}
	case 6:
		if d.Intn(3) == 0 {
			v.ID = of(d, of(d, h.vs...).ID, api.ID{}, spot(0x15), spot(0xff))
		}
	case 7, 8:
		for i := range v.Ends {
			if v.Ends[i].Up {
				v.Ends[i].Out = append(slices.Clone(v.Ends[i].Out), d.text(h))
			}
		}
	default:
		if e := d.anEnd(v); e != nil {
			d.breakEnd(h, e)
		}
	}
}

// count is how often a call answered true and false.
type count map[string]*[2]int

func (c count) note(what string, answer bool) {
	if c[what] == nil {
		c[what] = new([2]int)
	}
	if answer {
		c[what][1]++
	} else {
		c[what][0]++
	}
}

// both looks whether each call answered both often enough.
func (c count) both(t *testing.T, least int) {
	t.Helper()
	for what, n := range c {
		if min(n[0], n[1]) < least {
			t.Errorf("%s was false %d times, and true %d times", what, n[0], n[1])
		}
	}
}

// agree holds all calls against the second telling, at all places, some that are none, and some paths and entries.
func agree(t *testing.T, c count, vs []world.View, linked func(a, b int) bool, paths []api.Path, entries []api.Entry) {
	t.Helper()
	x := teller{vs, linked}
	check := func(what string, got, want bool) {
		t.Helper()
		if got != want {
			t.Fatalf("%s is %v of %+v", what, got, vs)
		}
		c.note(what, got)
	}
	places := []int{-1, len(vs), 1 << 33}
	for a, v := range vs {
		places = append(places, a)
		if l, want := watch.Friends(v), friends(v); !slices.Equal(l, want) {
			t.Fatalf("Friends of %+v are %v, not %v", v, l, want)
		}
	}
	for _, a := range places {
		if l, want := watch.Reach(vs, linked, a), x.reach(a); !slices.Equal(l, want) {
			t.Fatalf("Reach(%d) of %+v is %v, not %v", a, vs, l, want)
		}
		for _, b := range places {
			check("Paired", watch.Paired(vs, a, b), x.paired(a, b))
			for _, p := range paths {
				check("Owes", watch.Owes(vs, a, b, p), x.owes(a, b, p))
			}
		}
		for _, e := range entries {
			check("Stands towards A", watch.Stands(vs, a, e, true), x.stands(a, e, true))
			check("Stands towards B", watch.Stands(vs, a, e, false), x.stands(a, e, false))
		}
	}
	check("Traced", watch.Traced(vs), x.traced())
	check("Settled", watch.Settled(vs, linked), x.settled())
	for _, half := range []int{math.MinInt, 0, 1, 2, 3, math.MaxInt} {
		check("Ringed", watch.Ringed(vs, linked, half), x.ringed(half))
	}
}

// P22.1: all calls, of worlds by hand in which all stands as it should, and in which one thing or several are another way.
func TestDrawnViews(t *testing.T) {
	c := count{}
	for seed := range 6000 {
		d := draw{rand.New(rand.NewSource(int64(seed)))}
		h := d.good()
		for range d.Intn(6) {
			d.breaks(h)
		}
		paths := []api.Path{key(0), key(1), key(2)}
		entries := []api.Entry{d.entry(h)}
		for _, v := range h.vs {
			for _, x := range v.Entries {
				if !slices.Contains(paths, x.P) {
					paths = append(paths, x.P)
				}
			}
			entries = append(entries, v.Entries...)
		}
		agree(t, c, h.vs, h.linked, paths, entries)
	}
	c.both(t, 500)
}

// P22.1: all calls, of worlds by hand in which one thing is another way: each call by itself tells it.
func TestOneThing(t *testing.T) {
	c := count{}
	for seed := range 3000 {
		d := draw{rand.New(rand.NewSource(int64(50000 + seed)))}
		h := d.good()
		is(t, "Traced of what is good", watch.Traced(h.vs), true)
		is(t, "Settled of what is good", watch.Settled(h.vs, h.linked), true)
		is(t, "Ringed of what is good", watch.Ringed(h.vs, h.linked, 1) || watch.Ringed(h.vs, h.linked, 2), true)
		d.breaks(h)
		agree(t, c, h.vs, h.linked, nil, nil)
	}
	c.both(t, 200)
}

// roomy is a list with spare room, in which something stands.
func roomy[T any](l []T, spare T) []T {
	return append(slices.Clone(l), spare, spare)[: len(l) : len(l)+2]
}

// wholly is all that is in views, spare room too, in memory of its own.
func wholly(vs []world.View) []world.View {
	vs = slices.Clone(vs[:cap(vs)])
	for i, v := range vs {
		vs[i].Entries = slices.Clone(v.Entries[:cap(v.Entries)])
		vs[i].Ends = slices.Clone(v.Ends[:cap(v.Ends)])
		for j, e := range vs[i].Ends {
			out := slices.Clone(e.Out[:cap(e.Out)])
			for k, text := range out {
				out[k] = slices.Clone(text[:cap(text)])
			}
			vs[i].Ends[j].Out = out
		}
	}
	return vs
}

// P22.1 (R3): what is handed in stays as it is, spare room too.
func TestNothingIsChanged(t *testing.T) {
	for seed := range 300 {
		d := draw{rand.New(rand.NewSource(int64(70000 + seed)))}
		h := d.good()
		for range d.Intn(4) {
			d.breaks(h)
		}
		for a := range h.vs {
			v := &h.vs[a]
			for i, e := range v.Ends {
				for j, text := range e.Out {
					e.Out[j] = roomy(text, 0xee)
				}
				v.Ends[i].Out = roomy(e.Out, []byte{1, 5})
			}
			v.Ends = roomy(v.Ends, node.End{Up: true})
			v.Entries = roomy(v.Entries, entry(key(77), -1, 0))
		}
		vs := roomy(h.vs, world.View{Up: true, ID: spot(0x77)})
		was := wholly(vs)
		var entries []api.Entry
		for _, v := range vs {
			entries = append(entries, v.Entries...)
		}
		agree(t, count{}, vs, h.linked, []api.Path{d.path(h)}, entries)
		for _, v := range vs {
			l := watch.Friends(v)
			clear(l[:cap(l)])
		}
		if !reflect.DeepEqual(was, wholly(vs)) {
			t.Fatalf("%+v was handed in, and is %+v", was, wholly(vs))
		}
	}
}
