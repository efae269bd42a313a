package frame

import (
	"bytes"
	"slices"

	"annulet/api"
	"annulet/wire"
)

// Encode is a plain frame's bytes.
func Encode(f api.Frame) ([]byte, api.Errno) {
	b := body(f)
	if !Right(b) || !onlyWhatCounts(f, b) {
		return nil, api.ErrArg
	}
	return slices.Concat(wire.PutNum(uint64(b.Kind())), bytesOf(b)), api.OK
}

// onlyWhatCounts tells whether a frame has nothing beside what its body took of it.
func onlyWhatCounts(f api.Frame, b Body) bool {
	g, ok := fields(b)
	return ok && f.P == g.P && f.ToA == g.ToA && f.A == g.A && f.B == g.B && f.N == g.N &&
		f.From == g.From && f.To == g.To && f.Op == g.Op && f.TTL == g.TTL &&
		slices.Equal(f.Trail, g.Trail) && slices.Equal(f.IDs, g.IDs) && bytes.Equal(f.Text, g.Text) &&
		f.Item.Key == g.Item.Key && f.Item.Ver == g.Item.Ver && bytes.Equal(f.Item.Value, g.Item.Value)
}

// bytesOf is what stands behind the kind of a right body.
func bytesOf(b Body) []byte {
	switch b := b.(type) {
	case Hello:
		return slices.Concat(sessionBytes(b.Mine), sessionBytes(b.Seen), b.ID[:])
	case Data:
		return slices.Concat(sessionBytes(b.From), sessionBytes(b.To), numberBytes(b.N), wire.PutText(b.Text))
	case Ack:
		return slices.Concat(sessionBytes(b.From), sessionBytes(b.To), numberBytes(b.N))
	case Setup:
		return slices.Concat(pathBytes(b.P), b.A[:], b.B[:], trailBytes(b.Trail))
	case Drop:
		return pathBytes(b.P)
	case Part:
		return slices.Concat(pathBytes(b.P), flagBytes(b.ToA))
	case Peers:
		return slices.Concat(pathBytes(b.P), flagBytes(b.ToA), idsBytes(b.IDs))
	case Ask:
		return slices.Concat(b.Who[:], b.Want[:], numberBytes(int64(b.Leg)), pathBytes(b.P), flagBytes(b.ToA), trailBytes(b.Trail))
	case Advert:
		return slices.Concat(b.ID[:], numberBytes(b.Far))
	case Packet:
		return slices.Concat(b.Src[:], b.Dst[:], numberBytes(b.Req, int64(b.Op), int64(b.TTL)), itemBytes(b.Item), wire.PutText(b.Text))
	case Copy:
		return slices.Concat(pathBytes(b.P), flagBytes(b.ToA), itemBytes(b.Item))
	case Got:
		return slices.Concat(pathBytes(b.P), flagBytes(b.ToA), b.Key[:], verBytes(b.Ver))
	}
	return nil
}

// numberBytes is numbers that are at least 0, one behind the other.
func numberBytes(l ...int64) []byte {
	var b []byte
	for _, x := range l {
		b = append(b, wire.PutNum(uint64(x))...)
	}
	return b
}

func sessionBytes(n api.Num) []byte { return numberBytes(n.Inc, n.N) }

func pathBytes(p api.Path) []byte { return slices.Concat(p.Who[:], numberBytes(p.N)) }

func verBytes(v api.Ver) []byte { return slices.Concat(numberBytes(v.N), v.Who[:]) }

func itemBytes(i api.Item) []byte {
	return slices.Concat(i.Key[:], verBytes(i.Ver), wire.PutText(i.Value))
}

func flagBytes(is bool) []byte {
	if is {
		return wire.PutNum(1)
	}
	return wire.PutNum(0)
}

func trailBytes(l []int) []byte {
	b := wire.PutNum(uint64(len(l)))
	for _, n := range l {
		b = append(b, wire.PutNum(uint64(n))...)
	}
	return b
}

func idsBytes(l []api.ID) []byte {
	b := wire.PutNum(uint64(len(l)))
	for _, id := range l {
		b = append(b, id[:]...)
	}
	return b
}
