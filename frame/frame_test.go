package frame_test

import (
	"bytes"
	"math"
	"math/big"
	"math/rand"
	"reflect"
	"slices"
	"strings"
	"testing"

	"annulet/api"
	"annulet/frame"
)

// What the chapter says of frames, told a second time: its table as rows of words, gone over by reflection, numbers by math/big.

// row is a row of the chapter's table: a kind, a body of it, and its fields in the order of the bytes, each with the plain frame's field (and its bounds, where they hang on the kind) behind it.
type row struct {
	kind  int
	body  frame.Body
	parts string
}

var rows = []row{
	{1, frame.Hello{}, "Mine:From Seen:To ID:A"},
	{2, frame.Data{}, "From:From To:To N:N Text:Text/4096"},
	{3, frame.Ack{}, "From:From To:To N:N"},
	{4, frame.Setup{}, "P:P A:A B:B Trail:Trail"},
	{5, frame.Drop{}, "P:P"},
	{6, frame.Part{}, "P:P ToA:ToA"},
	{7, frame.Peers{}, "P:P ToA:ToA IDs:IDs"},
	{8, frame.Ask{}, "Who:A Want:B Leg:Op/0-3 P:P ToA:ToA Trail:Trail"},
	{9, frame.Advert{}, "ID:A Far:N"},
	{10, frame.Packet{}, "Src:A Dst:B Req:N Op:Op/1-4 TTL:TTL Item:Item Text:Text/64"},
	{11, frame.Copy{}, "P:P ToA:ToA Item:Item"},
	{12, frame.Got{}, "P:P ToA:ToA Key:Item.Key Ver:Item.Ver"},
}

// part is one of a row's parts: the body's field, the plain frame's, and its bounds.
func part(s string) (mine, plain, bounds string) {
	s, bounds, _ = strings.Cut(s, "/")
	mine, plain, _ = strings.Cut(s, ":")
	return mine, plain, bounds
}

func rowOf(kind int) (row, bool) {
	for _, r := range rows {
		if r.kind == kind {
			return r, true
		}
	}
	return row{}, false
}

func rowOfBody(b frame.Body) (row, bool) {
	for _, r := range rows {
		if reflect.TypeOf(b) == reflect.TypeOf(r.body) {
			return r, true
		}
	}
	return row{}, false
}

// field is a field of what p points at, by its path.
func field(p any, path string) reflect.Value {
	v := reflect.ValueOf(p).Elem()
	for _, name := range strings.Split(path, ".") {
		v = v.FieldByName(name)
	}
	return v
}

// bare is a frame or a body whose lists without elements are nil: they mean the same.
func bare[T any](x T) T {
	v := reflect.New(reflect.TypeOf(x)).Elem()
	v.Set(reflect.ValueOf(x))
	strip(v)
	return v.Interface().(T)
}

func strip(v reflect.Value) {
	switch v.Kind() {
	case reflect.Struct:
		for i := range v.NumField() {
			strip(v.Field(i))
		}
	case reflect.Slice:
		if v.Len() == 0 {
			v.SetZero()
		}
	}
}

func same[T any](a, b T) bool { return reflect.DeepEqual(bare(a), bare(b)) }

func sameBody(a, b frame.Body) bool {
	return a == nil && b == nil || a != nil && b != nil && same(a, b)
}

func plainOf(b frame.Body) api.Frame {
	r, ok := rowOfBody(b)
	if !ok {
		return api.Frame{}
	}
	f := api.Frame{Kind: r.kind}
	for _, s := range strings.Fields(r.parts) {
		mine, plain, _ := part(s)
		field(&f, plain).Set(reflect.ValueOf(b).FieldByName(mine))
	}
	return f
}

func bodyOf(f api.Frame) (frame.Body, bool) {
	r, ok := rowOf(f.Kind)
	if !ok {
		return nil, false
	}
	v := reflect.New(reflect.TypeOf(r.body)).Elem()
	for _, s := range strings.Fields(r.parts) {
		mine, plain, _ := part(s)
		v.FieldByName(mine).Set(field(&f, plain))
	}
	return v.Interface().(frame.Body), true
}

// span is least and most of an Op or a TTL, of the places of a Trail, else of any number.
func span(plain, bounds string) (least, most int64) {
	switch {
	case plain == "TTL":
		return 0, 64
	case plain == "Trail":
		return 0, 5
	case plain == "Op" && bounds == "0-3":
		return 0, 3
	case plain == "Op":
		return 1, 4
	}
	return 0, math.MaxInt64
}

// longest is how many elements a list may have.
func longest(plain, bounds string) int {
	switch {
	case bounds == "4096":
		return 4096
	case plain == "IDs":
		return 16
	}
	return 64 // a Trail, a Value, a Packet's Text
}

// rightPart tells whether a part of a frame is within its bounds.
func rightPart(v reflect.Value, plain, bounds string) bool {
	least, most := span(plain, bounds)
	switch v.Kind() {
	case reflect.Int, reflect.Int64:
		return least <= v.Int() && v.Int() <= most
	case reflect.Struct:
		for i := range v.NumField() {
			if !rightPart(v.Field(i), "", "") {
				return false
			}
		}
	case reflect.Slice:
		if v.Len() > longest(plain, bounds) {
			return false
		}
		for i := range v.Len() {
			if plain == "Trail" && !rightPart(v.Index(i), plain, bounds) {
				return false
			}
		}
	}
	return true
}

func rightOf(b frame.Body) bool {
	r, ok := rowOfBody(b)
	if !ok {
		return false
	}
	for _, s := range strings.Fields(r.parts) {
		mine, plain, bounds := part(s)
		if !rightPart(reflect.ValueOf(b).FieldByName(mine), plain, bounds) {
			return false
		}
	}
	return true
}

func numForm(x uint64) []byte {
	l := new(big.Int).SetUint64(x).Bytes()
	return append([]byte{byte(len(l))}, l...)
}

// pieces are the bytes of a part, each number, identity and text a piece of its own; a text's number is one too.
func pieces(v reflect.Value) [][]byte {
	switch v.Kind() {
	case reflect.Int, reflect.Int64:
		return [][]byte{numForm(uint64(v.Int()))}
	case reflect.Bool:
		if v.Bool() {
			return [][]byte{{1, 1}}
		}
		return [][]byte{{0}}
	case reflect.Array:
		id := v.Interface().(api.ID)
		return [][]byte{id[:]}
	case reflect.Struct:
		var l [][]byte
		for i := range v.NumField() {
			l = append(l, pieces(v.Field(i))...)
		}
		return l
	}
	l := [][]byte{numForm(uint64(v.Len()))}
	if text, ok := v.Interface().([]byte); ok {
		return append(l, text)
	}
	for i := range v.Len() {
		l = append(l, pieces(v.Index(i))...)
	}
	return l
}

func framePieces(f api.Frame) [][]byte {
	r, _ := rowOf(f.Kind)
	l := [][]byte{numForm(uint64(f.Kind))}
	for _, s := range strings.Fields(r.parts) {
		_, plain, _ := part(s)
		l = append(l, pieces(field(&f, plain))...)
	}
	return l
}

func encoded(f api.Frame) ([]byte, api.Errno) {
	b, ok := bodyOf(f)
	if !ok || !rightOf(b) || !same(plainOf(b), f) {
		return nil, api.ErrArg
	}
	return bytes.Join(framePieces(f), nil), api.OK
}

// scan reads bytes; once it has an error, nothing more.
type scan struct {
	b []byte
	e api.Errno
}

func (s *scan) stop(e api.Errno) {
	if s.e == api.OK {
		s.e = e
	}
}

func (s *scan) take(n int) []byte {
	if s.e == api.OK && len(s.b) < n {
		s.stop(api.ErrShort)
	}
	if s.e != api.OK {
		return nil
	}
	l := s.b[:n]
	s.b = s.b[n:]
	return l
}

// number is any number of layer 3's, 0 beside an error.
func (s *scan) number() *big.Int {
	l := s.take(1)
	if len(l) == 1 && l[0] > 8 {
		s.stop(api.ErrForm)
	}
	if s.e != api.OK {
		return new(big.Int)
	}
	l = s.take(int(l[0]))
	if len(l) > 0 && l[0] == 0 {
		s.stop(api.ErrForm)
	}
	return new(big.Int).SetBytes(l)
}

func (s *scan) within(least, most int64) int64 {
	x := s.number()
	if x.Cmp(big.NewInt(least)) < 0 || x.Cmp(big.NewInt(most)) > 0 {
		s.stop(api.ErrForm)
	}
	if s.e != api.OK {
		return 0
	}
	return x.Int64()
}

func (s *scan) text(most int) []byte {
	n := s.number()
	if n.Cmp(big.NewInt(int64(most))) > 0 {
		s.stop(api.ErrLong)
	}
	if s.e != api.OK {
		return nil
	}
	return s.take(int(n.Int64()))
}

func (s *scan) count(most int) int {
	n := s.within(0, math.MaxInt64)
	if n > int64(most) {
		s.stop(api.ErrLong)
	}
	if s.e != api.OK {
		return 0
	}
	return int(n)
}

// fill reads a part.
func (s *scan) fill(v reflect.Value, plain, bounds string) {
	least, most := span(plain, bounds)
	switch v.Kind() {
	case reflect.Int, reflect.Int64:
		v.SetInt(s.within(least, most))
	case reflect.Bool:
		v.SetBool(s.within(0, 1) == 1)
	case reflect.Array:
		reflect.Copy(v, reflect.ValueOf(s.take(16)))
	case reflect.Struct:
		for i := range v.NumField() {
			s.fill(v.Field(i), "", "")
		}
	case reflect.Slice:
		if v.Type().Elem().Kind() == reflect.Uint8 {
			v.SetBytes(s.text(longest(plain, bounds)))
			return
		}
		for range s.count(longest(plain, bounds)) {
			x := reflect.New(v.Type().Elem()).Elem()
			s.fill(x, plain, bounds)
			v.Set(reflect.Append(v, x))
		}
	}
}

func decoded(b []byte) (api.Frame, api.Errno) {
	s := &scan{b: b}
	f := api.Frame{Kind: int(s.within(1, 12))}
	r, _ := rowOf(f.Kind)
	for _, w := range strings.Fields(r.parts) {
		_, plain, bounds := part(w)
		s.fill(field(&f, plain), plain, bounds)
	}
	if len(s.b) > 0 {
		s.stop(api.ErrLong)
	}
	if s.e != api.OK {
		return api.Frame{}, s.e
	}
	return f, api.OK
}

func checkBody(t *testing.T, b frame.Body) {
	t.Helper()
	if f, want := frame.Plain(b), plainOf(b); !same(f, want) {
		t.Fatalf("Plain(%#v): %+v, not %+v", b, f, want)
	}
	if is, want := frame.Right(b), rightOf(b); is != want {
		t.Fatalf("Right(%#v): %v, not %v", b, is, want)
	}
}

func checkFrame(t *testing.T, f api.Frame) {
	t.Helper()
	b, ok := frame.Of(f)
	want, is := bodyOf(f)
	if ok != is || !sameBody(b, want) {
		t.Fatalf("Of(%+v): %#v, %v, not %#v, %v", f, b, ok, want, is)
	}
	checkBody(t, b)
	l, e := frame.Encode(f)
	line, wrong := encoded(f)
	if e != wrong || !bytes.Equal(l, line) {
		t.Fatalf("Encode(%+v): % x, %v, not % x, %v", f, l, e, line, wrong)
	}
}

func checkBytes(t *testing.T, b []byte) {
	t.Helper()
	f, e := frame.Decode(b)
	want, wrong := decoded(b)
	if e != wrong || !same(f, want) {
		t.Fatalf("Decode(% x): %+v, %v, not %+v, %v", b, f, e, want, wrong)
	}
}

func id(first byte) api.ID {
	var x api.ID
	for i := range x {
		x[i] = first + byte(i)
	}
	return x
}

func ids(n int) []api.ID {
	var l []api.ID
	for i := range n {
		l = append(l, id(byte(i*16)))
	}
	return l
}

func text(n int) []byte {
	l := make([]byte, n)
	for i := range l {
		l[i] = byte(i*7 + n)
	}
	return l
}

func trail(n int) []int {
	var l []int
	for i := range n {
		l = append(l, (i+n)%6)
	}
	return l
}

// full is a frame in which everything, whether it counts or not, has a value of its own that may be.
func full(kind int) api.Frame {
	return api.Frame{
		Kind: kind, P: api.Path{Who: id(1), N: 2}, ToA: true, A: id(3), B: id(4), N: 500,
		From: api.Num{Inc: 6, N: 70000}, To: api.Num{Inc: 8, N: 9}, Trail: []int{1, 5, 0}, IDs: ids(2),
		Item: api.Item{Key: id(10), Ver: api.Ver{N: 11, Who: id(12)}, Value: []byte("value")}, Op: 3, TTL: 14, Text: []byte("text"),
	}
}

// only is a frame's copy, all that doesn't count zero.
func only(f api.Frame) api.Frame {
	b, _ := bodyOf(f)
	return plainOf(b)
}

// spots are a plain frame's fields, each with values at its edges and beyond them; zero is among them.
func spots() map[string][]any {
	num := []any{int64(0), int64(1), int64(255), int64(256), int64(math.MaxInt64), int64(-1), int64(math.MinInt64)}
	ops := []any{0, 1, 2, 3, 4, 5, 6, -1, 64, 256, math.MaxInt, math.MinInt}
	texts := []any{[]byte(nil), []byte{}, []byte{0}, text(15), text(16), text(17), text(63), text(64), text(65), text(255), text(256), text(4095), text(4096), text(4097)}
	who := []any{api.ID{}, id(7), id(255), api.ID{15: 1}}
	return map[string][]any{
		"P.Who": who, "P.N": num, "ToA": {false, true}, "A": who, "B": who, "N": num,
		"From.Inc": num, "From.N": num, "To.Inc": num, "To.N": num,
		"Trail":    {[]int(nil), []int{}, []int{0}, []int{5}, []int{0, 5, 5, 0}, trail(63), trail(64), trail(65), []int{6}, []int{-1}, []int{0, 5, 6}, append(trail(63), 6), append(trail(63), -1), []int{math.MaxInt}, []int{math.MinInt}},
		"IDs":      {[]api.ID(nil), []api.ID{}, ids(1), ids(2), ids(15), ids(16), ids(17), ids(65)},
		"Item.Key": who, "Item.Ver.N": num, "Item.Ver.Who": who, "Item.Value": texts,
		"Op": ops, "TTL": append([]any{63, 65}, ops...), "Text": texts,
	}
}

func names() []string {
	var l []string
	for name := range spots() {
		l = append(l, name)
	}
	slices.Sort(l)
	return l
}

func put(f api.Frame, name string, x any) api.Frame {
	field(&f, name).Set(reflect.ValueOf(x))
	return f
}

// frames are of each kind and of none: plain ones, zero but for the kind, and such as have one field at each of its spots; in some all that doesn't count is zero.
func frames() []api.Frame {
	var l []api.Frame
	for _, kind := range []int{1, 2, 3, 4, 5, 6, 7, 8, 9, 10, 11, 12, 0, -1, 13, 256 + 5, math.MinInt, math.MaxInt} {
		base := []api.Frame{full(kind), {Kind: kind}}
		if kind >= 1 && kind <= 12 {
			base = append(base, only(full(kind)))
		}
		for _, f := range base {
			l = append(l, f)
			for _, name := range names() {
				for _, x := range spots()[name] {
					l = append(l, put(f, name, x))
				}
			}
		}
	}
	return l
}

// mixed are frames with all that counts drawn from the spots, now and then with one thing that doesn't count.
func mixed(n int) []api.Frame {
	r := rand.New(rand.NewSource(4))
	all, order := spots(), names()
	var l []api.Frame
	for range n {
		f := api.Frame{Kind: 1 + r.Intn(12)}
		for _, name := range order {
			f = put(f, name, all[name][r.Intn(min(6, len(all[name])))])
		}
		for _, name := range order {
			if r.Intn(30) == 0 {
				f = put(f, name, all[name][r.Intn(len(all[name]))])
			}
		}
		if r.Intn(5) > 0 {
			f = only(f)
		}
		l = append(l, f)
	}
	return l
}

// lines are the bytes of right frames.
func lines() [][]byte {
	var l [][]byte
	for _, f := range append(frames(), mixed(2000)...) {
		if b, e := encoded(f); e == api.OK {
			l = append(l, b)
		}
	}
	slices.SortFunc(l, bytes.Compare)
	return slices.CompactFunc(l, bytes.Equal)
}

// P4.1: the chapter's examples.
func TestExamples(t *testing.T) {
	drop := append(append([]byte{1, 5}, make([]byte, 16)...), 1, 1)
	f := api.Frame{Kind: api.Drop, P: api.Path{N: 1}}
	if b, e := frame.Encode(f); e != api.OK || !bytes.Equal(b, drop) {
		t.Errorf("Encode of the Drop: % x, %v", b, e)
	}
	if g, e := frame.Decode(drop); e != api.OK || !same(g, f) {
		t.Errorf("Decode of the Drop: %+v, %v", g, e)
	}
	for _, c := range []struct {
		b []byte
		e api.Errno
	}{
		{[]byte{1, 13}, api.ErrForm},
		{nil, api.ErrShort},
		{[]byte{}, api.ErrShort},
		{append(slices.Clone(drop), 0), api.ErrLong},
	} {
		if g, e := frame.Decode(c.b); e != c.e || !same(g, api.Frame{}) {
			t.Errorf("Decode(% x): %+v, %v, not %v", c.b, g, e, c.e)
		}
	}
}

// P4.1: each kind's number, asked of the body and of what it is told as.
func TestKinds(t *testing.T) {
	for i, b := range []frame.Body{frame.Hello{}, frame.Data{}, frame.Ack{}, frame.Setup{}, frame.Drop{}, frame.Part{}, frame.Peers{}, frame.Ask{}, frame.Advert{}, frame.Packet{}, frame.Copy{}, frame.Got{}} {
		if b.Kind() != i+1 || frame.Plain(b).Kind != i+1 {
			t.Errorf("%T: kinds %d and %d, not %d", b, b.Kind(), frame.Plain(b).Kind, i+1)
		}
		if c, ok := frame.Of(api.Frame{Kind: i + 1}); !ok || !sameBody(b, c) {
			t.Errorf("Of kind %d: %#v, %v", i+1, c, ok)
		}
	}
}

// whole are a body, its plain frame and its bytes, of each kind, written out.
func whole() []struct {
	b    frame.Body
	f    api.Frame
	line string
} {
	p := api.Path{Who: api.ID{0: 'p', 15: 'P'}, N: 2}
	a, b, v := api.ID{0: 'a', 15: 'A'}, api.ID{0: 'b', 15: 'B'}, api.ID{0: 'v', 15: 'V'}
	mine, seen := api.Num{Inc: 3, N: 256}, api.Num{Inc: 0, N: 5}
	item := api.Item{Key: api.ID{0: 'k', 15: 'K'}, Ver: api.Ver{N: 7, Who: v}, Value: []byte("xyz")}
	gap := strings.Repeat("\x00", 14)
	path, ids := "p"+gap+"P\x01\x02", "a"+gap+"Ab"+gap+"B"
	nums := "\x01\x03\x02\x01\x00\x00\x01\x05"
	ver := "k" + gap + "K\x01\x07v" + gap + "V"
	return []struct {
		b    frame.Body
		f    api.Frame
		line string
	}{
		{frame.Hello{Mine: mine, Seen: seen, ID: a}, api.Frame{Kind: api.Hello, From: mine, To: seen, A: a}, "\x01\x01" + nums + "a" + gap + "A"},
		{frame.Data{From: mine, To: seen, N: 9, Text: []byte("hi")}, api.Frame{Kind: api.Data, From: mine, To: seen, N: 9, Text: []byte("hi")}, "\x01\x02" + nums + "\x01\x09\x01\x02hi"},
		{frame.Ack{From: mine, To: seen, N: 9}, api.Frame{Kind: api.Ack, From: mine, To: seen, N: 9}, "\x01\x03" + nums + "\x01\x09"},
		{frame.Setup{P: p, A: a, B: b, Trail: []int{5, 0}}, api.Frame{Kind: api.Setup, P: p, A: a, B: b, Trail: []int{5, 0}}, "\x01\x04" + path + ids + "\x01\x02\x01\x05\x00"},
		{frame.Drop{P: p}, api.Frame{Kind: api.Drop, P: p}, "\x01\x05" + path},
		{frame.Part{P: p, ToA: true}, api.Frame{Kind: api.Part, P: p, ToA: true}, "\x01\x06" + path + "\x01\x01"},
		{frame.Peers{P: p, IDs: []api.ID{a, b}}, api.Frame{Kind: api.Peers, P: p, IDs: []api.ID{a, b}}, "\x01\x07" + path + "\x00\x01\x02" + ids},
		{frame.Ask{Who: a, Want: b, Leg: 3, P: p, ToA: true, Trail: []int{1}}, api.Frame{Kind: api.Ask, A: a, B: b, Op: 3, P: p, ToA: true, Trail: []int{1}}, "\x01\x08" + ids + "\x01\x03" + path + "\x01\x01\x01\x01\x01\x01"},
		{frame.Advert{ID: a, Far: 300}, api.Frame{Kind: api.Advert, A: a, N: 300}, "\x01\x09a" + gap + "A\x02\x01\x2c"},
		{frame.Packet{Src: a, Dst: b, Req: 8, Op: 2, TTL: 64, Item: item, Text: []byte("t")}, api.Frame{Kind: api.Packet, A: a, B: b, N: 8, Op: 2, TTL: 64, Item: item, Text: []byte("t")}, "\x01\x0a" + ids + "\x01\x08\x01\x02\x01\x40" + ver + "\x01\x03xyz\x01\x01t"},
		{frame.Copy{P: p, ToA: true, Item: item}, api.Frame{Kind: api.Copy, P: p, ToA: true, Item: item}, "\x01\x0b" + path + "\x01\x01" + ver + "\x01\x03xyz"},
		{frame.Got{P: p, Key: item.Key, Ver: item.Ver}, api.Frame{Kind: api.Got, P: p, Item: api.Item{Key: item.Key, Ver: item.Ver}}, "\x01\x0c" + path + "\x00" + ver},
	}
}

// P4.1: a frame of each kind, as a body, plain and as bytes, there and back.
func TestEachKind(t *testing.T) {
	for _, c := range whole() {
		if f := frame.Plain(c.b); !same(f, c.f) {
			t.Errorf("Plain(%#v): %+v", c.b, f)
		}
		if b, ok := frame.Of(c.f); !ok || !sameBody(b, c.b) {
			t.Errorf("Of(%+v): %#v, %v", c.f, b, ok)
		}
		if !frame.Right(c.b) {
			t.Errorf("Right(%#v): false", c.b)
		}
		if b, e := frame.Encode(c.f); e != api.OK || string(b) != c.line {
			t.Errorf("Encode(%+v): % x, %v, not % x", c.f, b, e, c.line)
		}
		if f, e := frame.Decode([]byte(c.line)); e != api.OK || !same(f, c.f) {
			t.Errorf("Decode(% x): %+v, %v", c.line, f, e)
		}
	}
}

// P4.1: each bound of a body, just kept and passed by one.
func TestBounds(t *testing.T) {
	wide := api.Item{Value: text(64)}
	for _, c := range []struct {
		b  frame.Body
		is bool
	}{
		{frame.Hello{Mine: api.Num{Inc: math.MaxInt64, N: math.MaxInt64}, Seen: api.Num{Inc: math.MaxInt64, N: math.MaxInt64}}, true},
		{frame.Hello{Mine: api.Num{Inc: -1}}, false},
		{frame.Hello{Mine: api.Num{N: -1}}, false},
		{frame.Hello{Seen: api.Num{Inc: -1}}, false},
		{frame.Hello{Seen: api.Num{N: math.MinInt64}}, false},
		{frame.Data{N: math.MaxInt64, Text: text(4096)}, true},
		{frame.Data{Text: text(4097)}, false},
		{frame.Data{N: -1}, false},
		{frame.Data{From: api.Num{Inc: -1}}, false},
		{frame.Data{To: api.Num{N: -1}}, false},
		{frame.Ack{N: math.MaxInt64}, true},
		{frame.Ack{N: -1}, false},
		{frame.Ack{From: api.Num{N: -1}}, false},
		{frame.Setup{P: api.Path{N: math.MaxInt64}, Trail: trail(64)}, true},
		{frame.Setup{Trail: trail(65)}, false},
		{frame.Setup{Trail: []int{0, 5}}, true},
		{frame.Setup{Trail: []int{6}}, false},
		{frame.Setup{Trail: []int{-1}}, false},
		{frame.Setup{P: api.Path{N: -1}}, false},
		{frame.Drop{}, true},
		{frame.Drop{P: api.Path{N: -1}}, false},
		{frame.Part{P: api.Path{N: -1}}, false},
		{frame.Peers{IDs: ids(16)}, true},
		{frame.Peers{IDs: ids(17)}, false},
		{frame.Ask{}, true},
		{frame.Ask{Leg: 3, Trail: trail(64)}, true},
		{frame.Ask{Leg: 4}, false},
		{frame.Ask{Leg: -1}, false},
		{frame.Ask{Trail: []int{1, 2, 6}}, false},
		{frame.Ask{Trail: trail(65)}, false},
		{frame.Advert{Far: math.MaxInt64}, true},
		{frame.Advert{Far: -1}, false},
		{frame.Packet{}, false}, // no Op
		{frame.Packet{Op: 1}, true},
		{frame.Packet{Op: 4, TTL: 64, Req: math.MaxInt64, Item: wide, Text: text(64)}, true},
		{frame.Packet{Op: 5}, false},
		{frame.Packet{Op: -1}, false},
		{frame.Packet{Op: 1, TTL: 65}, false},
		{frame.Packet{Op: 1, TTL: -1}, false},
		{frame.Packet{Op: 1, Req: -1}, false},
		{frame.Packet{Op: 1, Text: text(65)}, false},
		{frame.Packet{Op: 1, Item: api.Item{Value: text(65)}}, false},
		{frame.Packet{Op: 1, Item: api.Item{Ver: api.Ver{N: -1}}}, false},
		{frame.Copy{Item: wide}, true},
		{frame.Copy{Item: api.Item{Value: text(65)}}, false},
		{frame.Copy{Item: api.Item{Ver: api.Ver{N: -1}}}, false},
		{frame.Got{Ver: api.Ver{N: math.MaxInt64}}, true},
		{frame.Got{Ver: api.Ver{N: -1}}, false},
	} {
		if is := frame.Right(c.b); is != c.is {
			t.Errorf("Right(%#v): %v", c.b, is)
		}
		want := api.OK
		if !c.is {
			want = api.ErrArg
		}
		if b, e := frame.Encode(frame.Plain(c.b)); e != want || (len(b) > 0) != c.is {
			t.Errorf("Encode of %#v: % x, %v, not %v", c.b, b, e, want)
		}
	}
}

// Bodies that are none of this layer's types; a call of the method of some of them panics.
type (
	stranger struct{ kind int }
	sulky    struct{}
	inside   struct{ frame.Drop }
	likeDrop frame.Drop
	nowhere  struct{ frame.Body }
)

func (s stranger) Kind() int { return s.kind }
func (sulky) Kind() int      { panic("asked for a kind") }
func (likeDrop) Kind() int   { return api.Drop }

// P4.1: a Body that is none of the types, nil and pointers to them among them, is told as the zero frame and isn't right.
func TestStrangers(t *testing.T) {
	var none *frame.Drop
	l := []frame.Body{nil, none, sulky{}, &sulky{}, inside{frame.Drop{P: api.Path{N: 1}}}, likeDrop{P: api.Path{N: 1}}, nowhere{}, nowhere{frame.Drop{}}}
	for kind := -1; kind <= 13; kind++ {
		l = append(l, stranger{kind}, &stranger{kind})
	}
	l = append(l, &frame.Hello{}, &frame.Data{}, &frame.Ack{}, &frame.Setup{}, &frame.Drop{}, &frame.Part{}, &frame.Peers{}, &frame.Ask{}, &frame.Advert{}, &frame.Packet{Op: 1}, &frame.Copy{}, &frame.Got{})
	for _, b := range l {
		if f := frame.Plain(b); !same(f, api.Frame{}) {
			t.Errorf("Plain(%T): %+v", b, f)
		}
		if frame.Right(b) {
			t.Errorf("Right(%T): true", b)
		}
	}
}

// P4.1: a kind that is none.
func TestNoKind(t *testing.T) {
	for _, kind := range []int{0, -1, 13, 14, 256 + 5, math.MinInt, math.MaxInt} {
		for _, f := range []api.Frame{{Kind: kind}, full(kind)} {
			if b, ok := frame.Of(f); b != nil || ok {
				t.Errorf("Of kind %d: %#v, %v", kind, b, ok)
			}
			if b, e := frame.Encode(f); len(b) != 0 || e != api.ErrArg {
				t.Errorf("Encode of kind %d: % x, %v", kind, b, e)
			}
		}
	}
}

// P4.1: what doesn't count must be zero to be encoded, and is passed over by Of; an empty list is as good as none.
func TestWhatDoesNotCount(t *testing.T) {
	for _, r := range rows {
		counts := map[string]bool{}
		for _, s := range strings.Fields(r.parts) {
			_, plain, _ := part(s)
			for _, name := range names() {
				counts[name] = counts[name] || name == plain || strings.HasPrefix(name, plain+".")
			}
		}
		clean := only(full(r.kind))
		for _, name := range names() {
			for _, x := range spots()[name] {
				f := put(clean, name, x)
				if counts[name] || same(f, clean) {
					continue
				}
				if b, e := frame.Encode(f); len(b) != 0 || e != api.ErrArg {
					t.Errorf("kind %d with %s %v: % x, %v", r.kind, name, x, b, e)
				}
				one, ok := frame.Of(f)
				two, _ := frame.Of(clean)
				if !ok || !sameBody(one, two) {
					t.Errorf("Of kind %d hangs on %s: %#v", r.kind, name, one)
				}
			}
		}
		f := clean
		for _, name := range []string{"Trail", "IDs", "Item.Value", "Text"} {
			if v := field(&f, name); v.Len() == 0 {
				v.Set(reflect.MakeSlice(v.Type(), 0, 4))
			}
		}
		one, e := frame.Encode(f)
		two, _ := frame.Encode(clean)
		if e != api.OK || !bytes.Equal(one, two) {
			t.Errorf("kind %d with empty lists: % x, %v, not % x", r.kind, one, e, two)
		}
	}
}

// P4.1: Of takes what may not be, too.
func TestOfTakesWhatMayNotBe(t *testing.T) {
	f := api.Frame{Kind: api.Packet, N: -5, Op: 99, TTL: -3, Item: api.Item{Ver: api.Ver{N: -1}, Value: text(70)}, Text: text(80)}
	want := frame.Packet{Req: -5, Op: 99, TTL: -3, Item: api.Item{Ver: api.Ver{N: -1}, Value: text(70)}, Text: text(80)}
	if b, ok := frame.Of(f); !ok || !sameBody(b, want) || frame.Right(b) {
		t.Errorf("Of a wrong Packet: %#v, %v", b, ok)
	}
	g := api.Frame{Kind: api.Ask, Op: -7, Trail: append(trail(70), 6, -1)}
	if b, ok := frame.Of(g); !ok || !sameBody(b, frame.Ask{Leg: -7, Trail: append(trail(70), 6, -1)}) || frame.Right(b) {
		t.Errorf("Of a wrong Ask: %#v, %v", b, ok)
	}
}

// P4.1: Plain, Of, Right and Encode at all sorts of frames.
func TestAllSortsOfFrames(t *testing.T) {
	right := 0
	for _, f := range append(frames(), mixed(5000)...) {
		checkFrame(t, f)
		if _, e := encoded(f); e == api.OK {
			right++
		}
	}
	if right < 2000 {
		t.Errorf("only %d frames are right", right)
	}
}

// P4.1: Decode, its errors and the order in which they are met.
func TestDecodeErrors(t *testing.T) {
	zero := strings.Repeat("\x00", 16)
	path := zero + "\x00"
	big, max := "\x08\x80"+zero[:7], "\x08\x7f"+strings.Repeat("\xff", 7)
	packet := "\x01\x0a" + zero + zero + "\x00"
	for _, c := range []struct {
		b string
		e api.Errno
	}{
		{"\x00", api.ErrForm}, // kind 0
		{"\x01", api.ErrShort},
		{"\x01\x00", api.ErrForm}, // a 0 ahead
		{"\x09", api.ErrForm},
		{"\x02\x00\x05" + path, api.ErrForm},
		{"\x02\x01\x05" + path, api.ErrForm}, // kind 261
		{big, api.ErrForm},
		{max, api.ErrForm},
		{"\x01\x0d", api.ErrForm},
		{"\x01\x0d and more", api.ErrForm},
		{"\x01\x05", api.ErrShort},
		{"\x01\x05" + zero[:15], api.ErrShort},
		{"\x01\x05" + zero, api.ErrShort},
		{"\x01\x05" + path, api.OK},
		{"\x01\x05" + path + "\x00", api.ErrLong},
		{"\x01\x05" + zero + max, api.OK},
		{"\x01\x05" + zero + big, api.ErrForm},
		{"\x01\x05" + zero + big + "more", api.ErrForm},
		{"\x01\x05" + zero + "\x08" + strings.Repeat("\xff", 8), api.ErrForm},
		{"\x01\x05" + zero + "\x08" + strings.Repeat("\xff", 7), api.ErrShort},
		{"\x01\x05" + zero + "\x09more", api.ErrForm},
		{"\x01\x05" + zero + "\x01\x00more", api.ErrForm},
		{"\x01\x06" + path + "\x00", api.OK},
		{"\x01\x06" + path + "\x01\x01", api.OK},
		{"\x01\x06" + path + "\x01\x02", api.ErrForm},
		{"\x01\x06" + path + "\x01\x02more", api.ErrForm},
		{"\x01\x06" + path + big, api.ErrForm},
		{"\x01\x06" + path, api.ErrShort},
		{"\x01\x07" + path + "\x00\x00", api.OK},
		{"\x01\x07" + path + "\x00\x01\x10", api.ErrShort},
		{"\x01\x07" + path + "\x00\x01\x10" + strings.Repeat(zero, 16), api.OK},
		{"\x01\x07" + path + "\x00\x01\x11", api.ErrLong}, // ahead of what it counts
		{"\x01\x07" + path + "\x00\x01\x11" + strings.Repeat(zero, 17), api.ErrLong},
		{"\x01\x07" + path + "\x00" + max, api.ErrLong},
		{"\x01\x07" + path + "\x00" + big, api.ErrForm}, // above 2^63 - 1 is named first
		{"\x01\x07" + path + "\x01\x02\x01\x11", api.ErrForm},
		{"\x01\x04" + path + zero + zero + "\x00", api.OK},
		{"\x01\x04" + path + zero + zero + "\x01\x40" + strings.Repeat("\x00", 64), api.OK},
		{"\x01\x04" + path + zero + zero + "\x01\x40" + strings.Repeat("\x00", 63), api.ErrShort},
		{"\x01\x04" + path + zero + zero + "\x01\x40" + strings.Repeat("\x00", 65), api.ErrLong},
		{"\x01\x04" + path + zero + zero + "\x01\x41", api.ErrLong},
		{"\x01\x04" + path + zero + zero + "\x01\x41\x01\x06", api.ErrLong},
		{"\x01\x04" + path + zero + zero + big, api.ErrForm},
		{"\x01\x04" + path + zero + zero + "\x01\x02\x01\x05\x00", api.OK},
		{"\x01\x04" + path + zero + zero + "\x01\x02\x01\x06", api.ErrForm}, // ahead of what lacks
		{"\x01\x04" + path + zero + zero + "\x01\x02\x00" + big, api.ErrForm},
		{"\x01\x08" + zero + zero + "\x00" + path + "\x00\x00", api.OK},
		{"\x01\x08" + zero + zero + "\x01\x03" + path + "\x00\x00", api.OK},
		{"\x01\x08" + zero + zero + "\x01\x04", api.ErrForm},
		{"\x01\x08" + zero + zero + "\x01\x03" + path + "\x00\x01\x01\x01\x06", api.ErrForm},
		{"\x01\x08" + zero + zero + "\x01\x03" + path + "\x00\x01\x41", api.ErrLong},
		{packet + "\x00", api.ErrForm},
		{packet + "\x01\x05", api.ErrForm},
		{packet + "\x01\x01", api.ErrShort},
		{packet + "\x01\x01\x01\x41", api.ErrForm},
		{packet + "\x01\x01\x00" + zero + "\x00" + zero + "\x00\x00", api.OK},
		{packet + "\x01\x04\x01\x40" + zero + "\x00" + zero + "\x00\x00", api.OK},
		{packet + "\x01\x01\x00" + zero + "\x00" + zero + "\x01\x41", api.ErrLong},
		{packet + "\x01\x01\x00" + zero + "\x00" + zero + "\x01\x40", api.ErrShort},
		{packet + "\x01\x01\x00" + zero + "\x00" + zero + "\x00\x01\x41", api.ErrLong},
		{packet + "\x01\x01\x00" + zero + "\x00" + zero + "\x00\x01\x40" + strings.Repeat("x", 64), api.OK},
		{packet + "\x01\x01\x00" + zero + "\x00" + zero + "\x00" + big, api.ErrLong}, // a text's number is layer 3's
		{"\x01\x02\x00\x00\x00\x00\x00\x02\x10\x00" + strings.Repeat("x", 4096), api.OK},
		{"\x01\x02\x00\x00\x00\x00\x00\x02\x10\x00" + strings.Repeat("x", 4095), api.ErrShort},
		{"\x01\x02\x00\x00\x00\x00\x00\x02\x10\x01", api.ErrLong},
		{"\x01\x02\x00\x00\x00\x00\x00\x02\x10\x01" + strings.Repeat("x", 4097), api.ErrLong},
		{"\x01\x02\x00\x00\x00\x00\x00" + big, api.ErrLong},
		{"\x01\x02\x00\x00\x00\x00" + big, api.ErrForm},
		{"\x01\x01\x00" + big, api.ErrForm},
		{"\x01\x09" + zero + big, api.ErrForm},
		{"\x01\x0b" + path + "\x00" + zero + "\x00" + zero + "\x01\x41", api.ErrLong},
		{"\x01\x0c" + path + "\x00" + zero + "\x00" + zero, api.OK},
		{"\x01\x0c" + path + "\x00" + zero + "\x00" + zero + "\x00", api.ErrLong}, // a Got has no value
		{"\x01\x0c" + path + "\x00" + zero + big, api.ErrForm},
	} {
		f, e := frame.Decode([]byte(c.b))
		if e != c.e || e != api.OK && !same(f, api.Frame{}) {
			t.Errorf("Decode(% x): %+v, %v, not %v", c.b, f, e, c.e)
		}
		checkBytes(t, []byte(c.b))
	}
}

// P4.1: bytes cut off at every place, in their own memory and ahead of spare room, and with a byte more.
func TestCutOff(t *testing.T) {
	for _, c := range whole() {
		for n := range len(c.line) {
			for _, b := range [][]byte{[]byte(c.line)[:n], slices.Clip([]byte(c.line[:n]))} {
				if f, e := frame.Decode(b); e != api.ErrShort || !same(f, api.Frame{}) {
					t.Errorf("Decode(% x): %+v, %v, not ErrShort", b, f, e)
				}
			}
		}
		for more := range 256 {
			if f, e := frame.Decode(append([]byte(c.line), byte(more))); e != api.ErrLong || !same(f, api.Frame{}) {
				t.Errorf("Decode(% x %x): %+v, %v, not ErrLong", c.line, more, f, e)
			}
		}
	}
	for _, b := range lines() {
		step := 1 + len(b)/200
		for n := 0; n < len(b); n += step {
			checkBytes(t, b[:n])
		}
		checkBytes(t, append(slices.Clone(b), 0))
		checkBytes(t, append(slices.Clone(b), b...))
	}
}

// P4.1: each piece of a frame's bytes in the place of which stands something else.
func TestOtherPieces(t *testing.T) {
	other := [][]byte{nil, {2, 0, 1}, {1, 0}, {9}, {8, 1}, {255}, make([]byte, 15), make([]byte, 16), make([]byte, 17)}
	for _, x := range []uint64{0, 1, 2, 3, 4, 5, 6, 7, 12, 13, 15, 16, 17, 63, 64, 65, 255, 256, 4095, 4096, 4097, math.MaxInt64, math.MaxInt64 + 1, math.MaxUint64} {
		other = append(other, numForm(x))
	}
	for _, c := range whole() {
		l := framePieces(c.f)
		for i, was := range l {
			for _, x := range other {
				l[i] = x
				b := bytes.Join(l, nil)
				checkBytes(t, b)
				checkBytes(t, bytes.Join(l[:i+1], nil))
				checkBytes(t, append(b, make([]byte, 5000)...))
			}
			l[i] = was
		}
	}
}

// P4.1: each byte of a frame's bytes in the place of which stands another one.
func TestOtherBytes(t *testing.T) {
	for _, c := range whole() {
		for i := range len(c.line) {
			b := []byte(c.line)
			for x := range 256 {
				b[i] = byte(x)
				checkBytes(t, b)
			}
		}
	}
}

// P4.1: all sorts of bytes: each one and two, drawn ones, and drawn ones behind a kind.
func TestAllSortsOfBytes(t *testing.T) {
	checkBytes(t, nil)
	checkBytes(t, []byte{})
	for a := range 256 {
		checkBytes(t, []byte{byte(a)})
		for b := range 256 {
			checkBytes(t, []byte{byte(a), byte(b)})
		}
	}
	r := rand.New(rand.NewSource(44))
	for range 20000 {
		b := make([]byte, r.Intn(120))
		r.Read(b)
		for i := range b {
			if r.Intn(2) == 0 {
				b[i] = byte(r.Intn(3))
			}
		}
		checkBytes(t, b)
		checkBytes(t, append([]byte{1, byte(1 + r.Intn(12))}, b...))
	}
}

// P4.2: what is encoded is decoded.
func TestEncodedIsDecoded(t *testing.T) {
	n := 0
	for _, f := range append(frames(), mixed(5000)...) {
		b, e := frame.Encode(f)
		if e != api.OK {
			continue
		}
		n++
		if g, e := frame.Decode(b); e != api.OK || !same(g, f) {
			t.Fatalf("%+v, encoded, is decoded as %+v, %v", f, g, e)
		}
	}
	if n < 2000 {
		t.Errorf("only %d frames were encoded", n)
	}
}

// P4.2: what is decoded, of whatever bytes, is encoded so.
func TestDecodedIsEncodedSo(t *testing.T) {
	n := 0
	check := func(b []byte) {
		f, e := frame.Decode(b)
		if e != api.OK {
			return
		}
		n++
		if c, e := frame.Encode(f); e != api.OK || !bytes.Equal(b, c) {
			t.Fatalf("% x is decoded as %+v, which is encoded as % x, %v", b, f, c, e)
		}
	}
	r := rand.New(rand.NewSource(444))
	for _, line := range lines() {
		check(line)
		for range 40 {
			b := slices.Clone(line)
			for range 1 + r.Intn(3) {
				b[r.Intn(len(b))] = byte(r.Intn(256) >> r.Intn(8))
			}
			check(b)
		}
	}
	if n < 20000 {
		t.Errorf("only %d frames were decoded", n)
	}
}

// P4.3: of a body's plain frame the body comes back, right or not.
func TestOfPlain(t *testing.T) {
	for _, f := range append(frames(), mixed(5000)...) {
		b, ok := bodyOf(f)
		if !ok {
			continue
		}
		checkBody(t, b)
		if c, ok := frame.Of(frame.Plain(b)); !ok || !sameBody(b, c) {
			t.Fatalf("Of(Plain(%#v)): %#v, %v", b, c, ok)
		}
	}
}

// P4.3: of a frame's body the frame comes back, where all that doesn't count is zero, right or not.
func TestPlainOf(t *testing.T) {
	for _, f := range append(frames(), mixed(5000)...) {
		if _, ok := bodyOf(f); !ok {
			continue
		}
		b, _ := frame.Of(f)
		if g := frame.Plain(b); !same(g, only(f)) {
			t.Fatalf("Plain(Of(%+v)): %+v", f, g)
		}
	}
}

// shared is a frame whose lists are pieces of rooms, with spare room behind them, and these rooms; its texts are one and the same piece.
func shared(kind int) (api.Frame, []byte, []int, []api.ID) {
	room, places, others := []byte("all in one room"), []int{1, 2, 3, 4}, ids(4)
	f := full(kind)
	f.Text, f.Item.Value, f.Trail, f.IDs = room[:6], room[:6], places[:2], others[:2]
	return f, room, places, others
}

// scribble writes over a frame's or a body's lists and their spare room.
func scribble(v reflect.Value) {
	switch v.Kind() {
	case reflect.Struct:
		for i := range v.NumField() {
			scribble(v.Field(i))
		}
	case reflect.Slice:
		for i := range v.Cap() {
			x := v.Slice(0, v.Cap()).Index(i)
			if x.CanUint() {
				x.SetUint(0xEE)
			} else if x.CanInt() {
				x.SetInt(77)
			} else {
				x.Set(reflect.ValueOf(id(0xEE)))
			}
		}
	}
}

// lists are the lists of a frame or a body.
func lists(v reflect.Value) []reflect.Value {
	switch v.Kind() {
	case reflect.Slice:
		return []reflect.Value{v}
	case reflect.Struct:
		var l []reflect.Value
		for i := range v.NumField() {
			l = append(l, lists(v.Field(i))...)
		}
		return l
	}
	return nil
}

// checkLists tells of two lists of an answer that share memory.
func checkLists(t *testing.T, x any) {
	t.Helper()
	l := lists(reflect.ValueOf(x))
	for i, a := range l {
		for _, b := range l[:i] {
			if a.Cap() > 0 && b.Cap() > 0 && a.Pointer() == b.Pointer() {
				t.Errorf("two lists of %T share memory", x)
			}
		}
	}
}

// R3: what is handed in is left as it is and isn't kept; answers are new memory, spare room too, and no two lists of one share any.
func TestNewMemory(t *testing.T) {
	for kind := 1; kind <= 12; kind++ {
		f, room, places, others := shared(kind)
		left := func(what string) {
			t.Helper()
			if string(room) != "all in one room" || !slices.Equal(places, []int{1, 2, 3, 4}) || !slices.Equal(others, ids(4)) {
				t.Fatalf("kind %d: %s changes what was handed in", kind, what)
			}
		}
		b, _ := frame.Of(f)
		checkLists(t, b)
		again, _ := frame.Of(f)
		scribble(reflect.ValueOf(b))
		left("Of")
		if want, _ := bodyOf(f); !sameBody(again, want) {
			t.Errorf("kind %d: two answers of Of share memory", kind)
		}

		mine, _ := bodyOf(f)
		g, h := frame.Plain(mine), frame.Plain(mine)
		checkLists(t, g)
		frame.Right(mine)
		scribble(reflect.ValueOf(g))
		left("Plain")
		if !same(h, plainOf(mine)) {
			t.Errorf("kind %d: two answers of Plain share memory", kind)
		}

		line, _ := encoded(plainOf(mine))
		one, _ := frame.Encode(plainOf(mine))
		two, _ := frame.Encode(plainOf(mine))
		clear(one[:cap(one)])
		left("Encode")
		if !bytes.Equal(two, line) {
			t.Errorf("kind %d: two answers of Encode share memory", kind)
		}

		roomy := append(append(make([]byte, 0, len(line)+8), line...), "spare"...)
		head := roomy[:len(line)]
		g, _ = frame.Decode(head)
		h, _ = frame.Decode(head)
		checkLists(t, g)
		scribble(reflect.ValueOf(g))
		if !bytes.Equal(head, line) || string(roomy[len(line):]) != "spare" {
			t.Errorf("kind %d: Decode's frame shares memory with the bytes", kind)
		}
		clear(roomy)
		if !same(h, plainOf(mine)) {
			t.Errorf("kind %d: a frame hangs on the bytes, or on another frame", kind)
		}
	}
}
