package frame

import "annulet/api"

// Body is what a frame says.
type Body interface{ Kind() int }

// Drop takes a path away.
type Drop struct{ P api.Path }

// Hello begins a session.
type Hello struct {
	Mine, Seen api.Num
	ID         api.ID
}

// Data carries the N-th text of a session.
type Data struct {
	From, To api.Num
	N        int64
	Text     []byte
}

// Ack says that all up to the N-th came.
type Ack struct {
	From, To api.Num
	N        int64
}

// Setup lays a path.
type Setup struct {
	P     api.Path
	A, B  api.ID
	Trail []int
}

// Part asks whether a path is still wanted.
type Part struct {
	P   api.Path
	ToA bool
}

// Peers tells of others.
type Peers struct {
	P   api.Path
	ToA bool
	IDs []api.ID
}

// Ask asks for a path.
type Ask struct {
	Who, Want api.ID
	Leg       int
	P         api.Path
	ToA       bool
	Trail     []int
}

// Advert tells of the least identity.
type Advert struct {
	ID  api.ID
	Far int64
}

// Packet is for an identity.
type Packet struct {
	Src, Dst api.ID
	Req      int64
	Op, TTL  int
	Item     api.Item
	Text     []byte
}

// Copy hands an item on.
type Copy struct {
	P    api.Path
	ToA  bool
	Item api.Item
}

// Got says that an item is kept.
type Got struct {
	P   api.Path
	ToA bool
	Key api.ID
	Ver api.Ver
}

// Kind is its number.
func (Hello) Kind() int { return api.Hello }

// Kind is its number.
func (Data) Kind() int { return api.Data }

// Kind is its number.
func (Ack) Kind() int { return api.Ack }

// Kind is its number.
func (Setup) Kind() int { return api.Setup }

// Kind is its number.
func (Drop) Kind() int { return api.Drop }

// Kind is its number.
func (Part) Kind() int { return api.Part }

// Kind is its number.
func (Peers) Kind() int { return api.Peers }

// Kind is its number.
func (Ask) Kind() int { return api.Ask }

// Kind is its number.
func (Advert) Kind() int { return api.Advert }

// Kind is its number.
func (Packet) Kind() int { return api.Packet }

// Kind is its number.
func (Copy) Kind() int { return api.Copy }

// Kind is its number.
func (Got) Kind() int { return api.Got }
