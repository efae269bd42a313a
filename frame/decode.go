package frame

import (
	"math"

	"annulet/api"
	"annulet/wire"
)

// Decode reads a frame.
func Decode(b []byte) (api.Frame, api.Errno) {
	got, e := read(b)
	if e != api.OK {
		return api.Frame{}, e
	}
	return Plain(got), api.OK
}

// read is the body that bytes are of, from the first to the last.
func read(b []byte) (got Body, e api.Errno) {
	defer func() {
		// What the reader throws is always an error's number.
		if thrown, ok := recover().(error); ok {
			got, e = nil, thrown.(api.Errno)
		}
	}()
	r := &reader{b: b}
	got = r.body()
	r.end()
	return got, api.OK
}

// reader reads bytes from the front; what is wrong with them is thrown, so that whoever puts parts together needn't ask behind each of them.
type reader struct {
	b  []byte
	at int
}

// must ends the reading, if there is an error.
func must(e api.Errno) {
	if e != api.OK {
		panic(e)
	}
}

// body reads a body, whose fields stand in the order of the bytes.
func (r *reader) body() Body {
	switch r.number() {
	case api.Hello:
		return Hello{Mine: r.session(), Seen: r.session(), ID: r.id()}
	case api.Data:
		return Data{From: r.session(), To: r.session(), N: r.number(), Text: r.text(api.MaxFrame)}
	case api.Ack:
		return Ack{From: r.session(), To: r.session(), N: r.number()}
	case api.Setup:
		return Setup{P: r.path(), A: r.id(), B: r.id(), Trail: r.trail()}
	case api.Drop:
		return Drop{P: r.path()}
	case api.Part:
		return Part{P: r.path(), ToA: r.flag()}
	case api.Peers:
		return Peers{P: r.path(), ToA: r.flag(), IDs: r.ids()}
	case api.Ask:
		return Ask{Who: r.id(), Want: r.id(), Leg: r.within(0, maxLeg), P: r.path(), ToA: r.flag(), Trail: r.trail()}
	case api.Advert:
		return Advert{ID: r.id(), Far: r.number()}
	case api.Packet:
		return Packet{Src: r.id(), Dst: r.id(), Req: r.number(), Op: r.within(api.OpSend, api.OpAnswer), TTL: r.within(0, api.MaxTTL), Item: r.item(), Text: r.text(api.MaxValue)}
	case api.Copy:
		return Copy{P: r.path(), ToA: r.flag(), Item: r.item()}
	case api.Got:
		return Got{P: r.path(), ToA: r.flag(), Key: r.id(), Ver: r.ver()}
	}
	panic(api.ErrForm)
}

// end sees that nothing follows.
func (r *reader) end() {
	if r.at < len(r.b) {
		panic(api.ErrLong)
	}
}

// number reads a number that an int64 holds.
func (r *reader) number() int64 {
	x, next, e := wire.GetNum(r.b, r.at)
	must(e)
	if x > math.MaxInt64 {
		panic(api.ErrForm)
	}
	r.at = next
	return int64(x)
}

// within reads a number from least to most.
func (r *reader) within(least, most int64) int {
	x := r.number()
	if x < least || x > most {
		panic(api.ErrForm)
	}
	return int(x)
}

// count reads how many there are, so that nothing of them is looked at if they are too many.
func (r *reader) count(most int64) int {
	n := r.number()
	if n > most {
		panic(api.ErrLong)
	}
	return int(n)
}

func (r *reader) flag() bool { return r.within(0, 1) == 1 }

func (r *reader) id() api.ID {
	id, next, e := wire.GetID(r.b, r.at)
	must(e)
	r.at = next
	return id
}

func (r *reader) text(most int) []byte {
	text, next, e := wire.GetText(r.b, r.at, most)
	must(e)
	r.at = next
	return text
}

func (r *reader) session() api.Num { return api.Num{Inc: r.number(), N: r.number()} }

func (r *reader) path() api.Path { return api.Path{Who: r.id(), N: r.number()} }

func (r *reader) ver() api.Ver { return api.Ver{N: r.number(), Who: r.id()} }

func (r *reader) item() api.Item {
	return api.Item{Key: r.id(), Ver: r.ver(), Value: r.text(api.MaxValue)}
}

func (r *reader) trail() []int {
	var l []int
	for range r.count(api.MaxTTL) {
		l = append(l, r.within(0, api.MaxNodes-1))
	}
	return l
}

func (r *reader) ids() []api.ID {
	var l []api.ID
	for range r.count(api.MaxList) {
		l = append(l, r.id())
	}
	return l
}
