package wire_test

import (
	"bytes"
	"math"
	"math/big"
	"math/rand"
	"slices"
	"testing"

	"annulet/api"
	"annulet/wire"
)

// What the chapter says of forms, told a second time: a number's bytes by math/big, texts by pieces.

func numForm(x uint64) []byte {
	l := new(big.Int).SetUint64(x).Bytes()
	return append([]byte{byte(len(l))}, l...)
}

func numAt(b []byte, at int) (uint64, int, api.Errno) {
	if at < 0 || at > len(b) {
		return 0, 0, api.ErrArg
	}
	if at == len(b) {
		return 0, 0, api.ErrShort
	}
	n := int(b[at])
	if n > 8 {
		return 0, 0, api.ErrForm
	}
	if at+1+n > len(b) {
		return 0, 0, api.ErrShort
	}
	l := b[at+1 : at+1+n]
	if bytes.HasPrefix(l, []byte{0}) {
		return 0, 0, api.ErrForm
	}
	return new(big.Int).SetBytes(l).Uint64(), at + 1 + n, api.OK
}

func textAt(b []byte, at, most int) ([]byte, int, api.Errno) {
	x, next, e := numAt(b, at)
	if e != api.OK {
		return nil, 0, e
	}
	n := new(big.Int).SetUint64(x)
	if most < 0 || n.Cmp(big.NewInt(int64(most))) > 0 {
		return nil, 0, api.ErrLong
	}
	if n.Cmp(big.NewInt(int64(len(b)-next))) > 0 {
		return nil, 0, api.ErrShort
	}
	return b[next : next+int(x)], next + int(x), api.OK
}

func idAt(b []byte, at int) (api.ID, int, api.Errno) {
	if at < 0 || at > len(b) {
		return api.ID{}, 0, api.ErrArg
	}
	if at+16 > len(b) {
		return api.ID{}, 0, api.ErrShort
	}
	return api.ID(b[at : at+16]), at + 16, api.OK
}

// numbers are both ends of each length, their neighbours, and some between, each once.
func numbers() []uint64 {
	l := []uint64{0, 1, 2, 3, 7, 8, 9, 100, 1000, 0x0102030405060708, 0x8877665544332211, math.MaxInt64, math.MaxInt64 + 1, math.MaxUint64 - 1, math.MaxUint64}
	for n := 1; n <= 8; n++ {
		first := uint64(1) << (8 * (n - 1))
		last := first<<8 - 1
		l = append(l, first, first+1, first|first>>8, last-1, last, last-0xFF, 0xAB*first)
	}
	r := rand.New(rand.NewSource(3))
	for range 500 {
		l = append(l, r.Uint64()>>r.Intn(64))
	}
	slices.Sort(l)
	return slices.Compact(l)
}

// texts are of no byte, and of both sides of where the number of their bytes grows.
func texts() [][]byte {
	l := [][]byte{nil, {}, {0}, {0, 0}, {1}, {8}, {9}, {255}, []byte("ab"), []byte("\x02\x01\x00"), []byte("日本")}
	for _, n := range []int{15, 16, 17, 63, 64, 65, 254, 255, 256, 257, 65535, 65536} {
		t := make([]byte, n)
		for i := range t {
			t[i] = byte(i*7 + n)
		}
		l = append(l, t)
	}
	return l
}

// places are at 0, in b, at its end and beyond it on both sides.
func places(b []byte) []int {
	l := []int{math.MinInt, math.MinInt32, -17, -2, -1, len(b) + 1, len(b) + 2, len(b) + 17, math.MaxInt32, math.MaxInt - 16, math.MaxInt - 1, math.MaxInt}
	for at := range len(b) + 1 {
		l = append(l, at)
	}
	return l
}

// mosts are below 0, at 0, at and beside n, and the ends of int.
func mosts(n int) []int {
	return []int{math.MinInt, math.MinInt32, -2, -1, 0, 1, n - 1, n, n + 1, 64, 4096, math.MaxInt32, math.MaxInt - 1, math.MaxInt}
}

// samples are bytes of all sorts: each one alone and in pairs, each longer one of a few that matter, and mixed ones; the same in every run.
func samples() [][]byte {
	l := [][]byte{nil, {}}
	for a := range 256 {
		l = append(l, []byte{byte(a)})
		for b := range 256 {
			l = append(l, []byte{byte(a), byte(b)})
		}
	}
	for n := 3; n <= 5; n++ {
		l = append(l, rows(n, []byte{0, 1, 2, 3, 4, 9, 255})...)
	}
	for first := range 12 {
		for n := range 12 {
			for _, second := range []byte{0, 1, 127, 128, 255} {
				b := bytes.Repeat([]byte{0xA5}, n+1)
				b[0], b[min(1, n)] = byte(first), second
				l = append(l, b)
				c := make([]byte, n+1)
				c[0] = byte(first)
				l = append(l, c)
			}
		}
	}
	return append(l, mixed(3000)...)
}

// rows are all rows of n bytes of some.
func rows(n int, some []byte) [][]byte {
	if n == 0 {
		return [][]byte{nil}
	}
	var l [][]byte
	for _, r := range rows(n-1, some) {
		for _, c := range some {
			l = append(l, append(slices.Clip(r), c))
		}
	}
	return l
}

// mixed are forms of numbers and texts, and bytes that are none, one behind the other.
func mixed(n int) [][]byte {
	r := rand.New(rand.NewSource(33))
	var l [][]byte
	for range n {
		var b []byte
		for range r.Intn(6) {
			switch r.Intn(4) {
			case 0:
				b = append(b, numForm(r.Uint64()>>r.Intn(64))...)
			case 1:
				t := make([]byte, r.Intn(20))
				r.Read(t)
				b = append(append(b, numForm(uint64(len(t)))...), t...)
			case 2:
				b = append(b, byte(r.Intn(10)))
			default:
				b = append(b, byte(r.Intn(256)))
			}
		}
		l = append(l, b)
	}
	return l
}

func checkNum(t *testing.T, b []byte, at int) {
	t.Helper()
	want, behind, e := numAt(b, at)
	got, next, f := wire.GetNum(b, at)
	if got != want || next != behind || f != e {
		t.Fatalf("GetNum(% x, %d): %d, %d, %v, not %d, %d, %v", b, at, got, next, f, want, behind, e)
	}
}

func checkText(t *testing.T, b []byte, at, most int) {
	t.Helper()
	want, behind, e := textAt(b, at, most)
	got, next, f := wire.GetText(b, at, most)
	if !bytes.Equal(got, want) || next != behind || f != e {
		t.Fatalf("GetText(% x, %d, %d): % x, %d, %v, not % x, %d, %v", b, at, most, got, next, f, want, behind, e)
	}
}

func checkID(t *testing.T, b []byte, at int) {
	t.Helper()
	want, behind, e := idAt(b, at)
	got, next, f := wire.GetID(b, at)
	if got != want || next != behind || f != e {
		t.Fatalf("GetID(% x, %d): % x, %d, %v, not % x, %d, %v", b, at, got, next, f, want, behind, e)
	}
}

// P3.1: the chapter's examples.
func TestExamples(t *testing.T) {
	if b := wire.PutNum(0, 1, 256); !bytes.Equal(b, []byte{0, 1, 1, 2, 1, 0}) {
		t.Errorf("PutNum(0, 1, 256): % x", b)
	}
	for _, c := range []struct {
		b []byte
		e api.Errno
	}{
		{[]byte{2, 0, 1}, api.ErrForm},
		{[]byte{3, 1}, api.ErrShort},
		{[]byte{9}, api.ErrForm},
	} {
		if x, next, e := wire.GetNum(c.b, 0); x != 0 || next != 0 || e != c.e {
			t.Errorf("GetNum(% x, 0): %d, %d, %v, not %v", c.b, x, next, e, c.e)
		}
	}
}

// P3.1: PutNum, of none, of one and of many.
func TestPutNum(t *testing.T) {
	if b := wire.PutNum(); len(b) != 0 {
		t.Errorf("PutNum(): % x", b)
	}
	if b := wire.PutNum([]uint64{}...); len(b) != 0 {
		t.Errorf("PutNum of an empty list: % x", b)
	}
	for _, c := range []struct {
		x    uint64
		want []byte
	}{
		{0, []byte{0}},
		{1, []byte{1, 1}},
		{255, []byte{1, 255}},
		{256, []byte{2, 1, 0}},
		{65535, []byte{2, 255, 255}},
		{1<<56 - 1, []byte{7, 255, 255, 255, 255, 255, 255, 255}},
		{1 << 56, []byte{8, 1, 0, 0, 0, 0, 0, 0, 0}},
		{0x0102030405060708, []byte{8, 1, 2, 3, 4, 5, 6, 7, 8}},
		{math.MaxUint64, []byte{8, 255, 255, 255, 255, 255, 255, 255, 255}},
	} {
		if b := wire.PutNum(c.x); !bytes.Equal(b, c.want) {
			t.Errorf("PutNum(%d): % x, not % x", c.x, b, c.want)
		}
	}
	var all []byte
	for _, x := range numbers() {
		if b := wire.PutNum(x); !bytes.Equal(b, numForm(x)) {
			t.Errorf("PutNum(%d): % x, not % x", x, b, numForm(x))
		}
		all = append(all, numForm(x)...)
	}
	if b := wire.PutNum(numbers()...); !bytes.Equal(b, all) {
		t.Error("PutNum of many isn't their forms, one behind the other")
	}
}

// P3.1: PutText, of none, of one and of many.
func TestPutText(t *testing.T) {
	if b := wire.PutText(); len(b) != 0 {
		t.Errorf("PutText(): % x", b)
	}
	if b := wire.PutText([][]byte{}...); len(b) != 0 {
		t.Errorf("PutText of an empty list: % x", b)
	}
	if b := wire.PutText([]byte("ab"), nil, []byte{}, []byte{0}); !bytes.Equal(b, []byte{1, 2, 'a', 'b', 0, 0, 1, 1, 0}) {
		t.Errorf("PutText of four: % x", b)
	}
	var all []byte
	for _, x := range texts() {
		want := append(numForm(uint64(len(x))), x...)
		if b := wire.PutText(x); !bytes.Equal(b, want) {
			t.Errorf("PutText of %d bytes: % x", len(x), b)
		}
		all = append(all, want...)
	}
	if b := wire.PutText(texts()...); !bytes.Equal(b, all) {
		t.Error("PutText of many isn't their forms, one behind the other")
	}
}

// P3.1: GetNum, its errors and the order in which they are met.
func TestGetNumErrors(t *testing.T) {
	for _, c := range []struct {
		b  []byte
		at int
		e  api.Errno
	}{
		{nil, 0, api.ErrShort},
		{[]byte{}, 0, api.ErrShort},
		{nil, -1, api.ErrArg},
		{nil, 1, api.ErrArg},
		{[]byte{}, 1, api.ErrArg},
		{[]byte{0}, -1, api.ErrArg},
		{[]byte{0}, 0, api.OK},
		{[]byte{0}, 1, api.ErrShort},
		{[]byte{0}, 2, api.ErrArg},
		{[]byte{9}, -1, api.ErrArg},
		{[]byte{9}, math.MinInt, api.ErrArg},
		{[]byte{9}, math.MaxInt, api.ErrArg},
		{[]byte{9, 0, 0, 0, 0, 0, 0, 0, 0, 0}, 0, api.ErrForm},
		{[]byte{9, 1, 1, 1, 1, 1, 1, 1, 1, 1}, 0, api.ErrForm},
		{[]byte{255}, 0, api.ErrForm},
		{[]byte{1}, 0, api.ErrShort},
		{[]byte{1, 0}, 0, api.ErrForm},
		{[]byte{2, 0}, 0, api.ErrShort}, // both apply: too few is named first
		{[]byte{8, 0, 1, 1, 1, 1, 1, 1}, 0, api.ErrShort},
		{[]byte{8, 0, 1, 1, 1, 1, 1, 1, 1}, 0, api.ErrForm},
		{[]byte{8, 1, 0, 0, 0, 0, 0, 0, 0}, 0, api.OK},
		{[]byte{0, 9}, 0, api.OK}, // what stands behind doesn't count
		{[]byte{1, 1, 9}, 2, api.ErrForm},
	} {
		x, next, e := wire.GetNum(c.b, c.at)
		if e != c.e || e != api.OK && (x != 0 || next != 0) {
			t.Errorf("GetNum(% x, %d): %d, %d, %v, not %v", c.b, c.at, x, next, e, c.e)
		}
	}
}

// P3.1: GetNum at each first byte, with each number of bytes behind it, the first of them 0 and not.
func TestGetNumAtEachLength(t *testing.T) {
	for first := range 256 {
		for n := range 12 {
			for _, second := range []byte{0, 1, 255} {
				b := make([]byte, 1+n)
				b[0] = byte(first)
				if n > 0 {
					b[1] = second
				}
				want := api.OK
				switch {
				case first > 8:
					want = api.ErrForm
				case n < first:
					want = api.ErrShort
				case first > 0 && second == 0:
					want = api.ErrForm
				}
				if _, _, e := wire.GetNum(b, 0); e != want {
					t.Errorf("GetNum(% x, 0): %v, not %v", b, e, want)
				}
			}
		}
	}
}

// P3.1: GetNum and GetText, at all sorts of bytes and places.
func TestGetAtAllSortsOfBytes(t *testing.T) {
	for _, b := range samples() {
		for _, at := range places(b) {
			checkNum(t, b, at)
			x, _, e := numAt(b, at)
			if e != api.OK {
				x = 3
			}
			for _, most := range mosts(int(min(x, math.MaxInt-1))) {
				checkText(t, b, at, most)
			}
		}
	}
}

// P3.1: GetText, its errors and the order in which they are met.
func TestGetTextErrors(t *testing.T) {
	for _, c := range []struct {
		b        []byte
		at, most int
		e        api.Errno
	}{
		{nil, 0, 0, api.ErrShort},
		{[]byte{}, 0, -1, api.ErrShort}, // GetNum's error is named first
		{nil, 1, -1, api.ErrArg},
		{[]byte{0}, -1, 0, api.ErrArg},
		{[]byte{9}, 0, -1, api.ErrForm},
		{[]byte{2, 0, 1}, 0, 0, api.ErrForm},
		{[]byte{0}, 0, -1, api.ErrLong},
		{[]byte{0}, 0, math.MinInt, api.ErrLong},
		{[]byte{0}, 0, 0, api.OK},
		{[]byte{0}, 1, 0, api.ErrShort},
		{[]byte{1, 1, 65}, 0, 0, api.ErrLong},
		{[]byte{1, 1, 65}, 0, 1, api.OK},
		{[]byte{1, 1, 65}, 0, math.MaxInt, api.OK},
		{[]byte{1, 3, 65}, 0, 2, api.ErrLong}, // both apply: too long is named first
		{[]byte{1, 3, 65}, 0, 3, api.ErrShort},
		{[]byte{1, 3, 65, 66}, 0, 3, api.ErrShort},
		{[]byte{1, 3, 65, 66, 67}, 0, 3, api.OK},
		{[]byte{8, 127, 255, 255, 255, 255, 255, 255, 255, 1}, 0, math.MaxInt, api.ErrShort},
		{[]byte{8, 127, 255, 255, 255, 255, 255, 255, 255, 1}, 0, math.MaxInt - 1, api.ErrLong},
		{[]byte{8, 128, 0, 0, 0, 0, 0, 0, 0, 1}, 0, math.MaxInt, api.ErrLong},
		{[]byte{8, 255, 255, 255, 255, 255, 255, 255, 255, 1}, 0, math.MaxInt, api.ErrLong},
		{[]byte{8, 255, 255, 255, 255, 255, 255, 255, 255, 1}, 0, -1, api.ErrLong},
	} {
		text, next, e := wire.GetText(c.b, c.at, c.most)
		if e != c.e || e != api.OK && (len(text) != 0 || next != 0) {
			t.Errorf("GetText(% x, %d, %d): % x, %d, %v, not %v", c.b, c.at, c.most, text, next, e, c.e)
		}
	}
}

// P3.1: GetID, with just 16 bytes, with 15, with none and with more.
func TestGetID(t *testing.T) {
	for n := range 40 {
		b := make([]byte, n)
		for i := range b {
			b[i] = byte(3*i + 1)
		}
		for _, at := range places(b) {
			checkID(t, b, at)
		}
	}
	for _, at := range places(nil) {
		checkID(t, nil, at)
	}
	b := []byte("0123456789abcdef!")
	if x, next, e := wire.GetID(b, 0); string(x[:]) != "0123456789abcdef" || next != 16 || e != api.OK {
		t.Errorf("GetID of 17 bytes: %s, %d, %v", x[:], next, e)
	}
	if _, _, e := wire.GetID(b[:15], 0); e != api.ErrShort {
		t.Errorf("GetID of 15 bytes: %v", e)
	}
	if _, _, e := wire.GetID(b[:16], 1); e != api.ErrShort { // spare room holds one more, but it doesn't count
		t.Errorf("GetID of 15 bytes ahead of spare room: %v", e)
	}
}

// P3.1: what lies in the spare room doesn't count as bytes that follow.
func TestSpareRoomIsNotRead(t *testing.T) {
	num, text := numForm(math.MaxUint64), wire.PutText([]byte("abc"))
	for n := range num {
		checkNum(t, num[:n], 0)
	}
	for n := range text {
		checkText(t, text[:n], 0, 3)
	}
}

// P3.2: numbers that are put are got, one behind the other and to the end.
func TestNumbersPutAreGot(t *testing.T) {
	l := numbers()
	b, at := wire.PutNum(l...), 0
	for _, want := range l {
		x, next, e := wire.GetNum(b, at)
		if x != want || e != api.OK || next != at+len(wire.PutNum(want)) {
			t.Fatalf("%d, put, is got as %d, %v", want, x, e)
		}
		at = next
	}
	if at != len(b) {
		t.Errorf("%d of %d bytes are got", at, len(b))
	}
}

// P3.2: texts that are put are got, one behind the other and to the end.
func TestTextsPutAreGot(t *testing.T) {
	l := texts()
	b, at := wire.PutText(l...), 0
	for _, want := range l {
		for _, most := range []int{len(want), len(want) + 1, math.MaxInt} {
			x, next, e := wire.GetText(b, at, most)
			if !bytes.Equal(x, want) || e != api.OK || next != at+len(wire.PutText(want)) {
				t.Fatalf("a text of %d bytes, put, is got as %d bytes, %v", len(want), len(x), e)
			}
		}
		if _, _, e := wire.GetText(b, at, len(want)-1); e != api.ErrLong {
			t.Fatalf("a text of %d bytes is got as one of fewer: %v", len(want), e)
		}
		_, at, _ = wire.GetText(b, at, len(want))
	}
	if at != len(b) {
		t.Errorf("%d of %d bytes are got", at, len(b))
	}
}

// P3.2: what is got, of whatever bytes, is put so.
func TestWhatIsGotIsPutSo(t *testing.T) {
	nums, words := 0, 0
	for _, b := range samples() {
		for at := range len(b) + 1 {
			if x, next, e := wire.GetNum(b, at); e == api.OK {
				nums++
				if p := wire.PutNum(x); !bytes.Equal(p, b[at:next]) {
					t.Fatalf("% x is got as %d, which is put as % x", b[at:next], x, p)
				}
			}
			if x, next, e := wire.GetText(b, at, math.MaxInt); e == api.OK {
				words++
				if p := wire.PutText(x); !bytes.Equal(p, b[at:next]) {
					t.Fatalf("% x is got as text % x, which is put as % x", b[at:next], x, p)
				}
			}
		}
	}
	if nums < 1000 || words < 1000 {
		t.Errorf("only %d numbers and %d texts were got", nums, words)
	}
}

// P3.3: in order of their bytes, a form that is another's beginning would stand just ahead of one that it begins.
func TestNoFormBeginsAnother(t *testing.T) {
	var l [][]byte
	for x := range uint64(1 << 17) {
		l = append(l, wire.PutNum(x))
	}
	for _, x := range numbers() {
		if x >= 1<<17 {
			l = append(l, wire.PutNum(x))
		}
	}
	slices.SortFunc(l, bytes.Compare)
	for i := range len(l) - 1 {
		if bytes.HasPrefix(l[i+1], l[i]) {
			t.Fatalf("% x begins % x", l[i], l[i+1])
		}
	}
}

// P3.3: a number's form, cut off at any place, is no number's.
func TestFormsCutOff(t *testing.T) {
	for _, x := range numbers() {
		b := wire.PutNum(x)
		for n := range b {
			for _, cut := range [][]byte{b[:n], slices.Clone(b[:n])} {
				if y, next, e := wire.GetNum(cut, 0); y != 0 || next != 0 || e != api.ErrShort {
					t.Fatalf("GetNum(% x, 0): %d, %d, %v, not ErrShort", cut, y, next, e)
				}
			}
		}
	}
	for _, x := range texts()[:20] {
		b := wire.PutText(x)
		for n := range b {
			if y, next, e := wire.GetText(b[:n], 0, math.MaxInt); len(y) != 0 || next != 0 || e != api.ErrShort {
				t.Fatalf("GetText of %d of %d bytes: %d, %v, not ErrShort", n, len(b), next, e)
			}
		}
	}
}

// R3: a text that is got is new memory, its spare room too.
func TestTextsAreNewMemory(t *testing.T) {
	for _, text := range texts() {
		b := wire.PutText(text, []byte("behind"))
		before := slices.Clone(b)
		one, _, _ := wire.GetText(b, 0, math.MaxInt)
		two, _, _ := wire.GetText(b, 0, math.MaxInt)
		for i := range one[:cap(one)] {
			one[:cap(one)][i] ^= 0xFF
		}
		if !bytes.Equal(b, before) {
			t.Fatalf("a text of %d bytes shares memory with what it was read from", len(text))
		}
		if !bytes.Equal(two, text) {
			t.Fatalf("two answers share a text of %d bytes", len(text))
		}
		clear(b)
		if !bytes.Equal(two, text) {
			t.Fatalf("a text of %d bytes hangs on what it was read from", len(text))
		}
	}
}

// R3: what is handed in is left as it is, its spare room too, and isn't kept.
func TestArgumentsAreLeft(t *testing.T) {
	room := []byte("\x01\x02ab spare room")
	whole := slices.Clone(room)
	head, text := room[:4], room[2:4]
	put := wire.PutText(text, text)
	for i := range put[:cap(put)] {
		put[:cap(put)][i] = 0xEE
	}
	wire.GetNum(head, 0)
	wire.GetText(head, 0, 2)
	wire.GetID(room, 0)
	if !bytes.Equal(room, whole) {
		t.Errorf("bytes handed in were changed: %q", room)
	}
	l := []uint64{1, 256, 3, 4}
	one := wire.PutNum(l[:2]...)
	two := wire.PutNum(l[:2]...)
	clear(one[:cap(one)])
	if !slices.Equal(l, []uint64{1, 256, 3, 4}) {
		t.Errorf("numbers handed in were changed: %v", l)
	}
	if !bytes.Equal(two, []byte{1, 1, 2, 1, 0}) {
		t.Errorf("two answers share memory: % x", two)
	}
}
