package slate_test

import (
	"bytes"
	"encoding/binary"
	"math"
	"math/rand"
	"slices"
	"strings"
	"testing"

	"annulet/api"
	"annulet/disk"
	"annulet/slate"
)

// What the chapter says of a log, told a second time: on a text, the bytes of the whole disk.

// headText is a head's sector.
func headText(gen, used, count uint64) string {
	b := binary.BigEndian.AppendUint64(nil, gen)
	b = binary.BigEndian.AppendUint64(b, used)
	b = binary.BigEndian.AppendUint64(b, count)
	return string(b) + noughts(1)[24:]
}

// recText is a record's sectors.
func recText(rec string) string {
	s := string([]byte{byte(len(rec) / 256), byte(len(rec) % 256)}) + rec
	for len(s)%64 != 0 {
		s += "\x00"
	}
	return s
}

func noughts(sectors int) string { return strings.Repeat("\x00", 64*sectors) }

// pad lays noughts behind a text, up to so many sectors.
func pad(text string, sectors int) string { return text + noughts(sectors)[len(text):] }

// model is what a log on these bytes is.
type model struct {
	text        string
	gen         uint64
	used, count int
	down        bool
}

// say is a head as it counts.
func say(sector string) (gen, used, count uint64) {
	if strings.Trim(sector[24:], "\x00") != "" {
		return 0, 0, 0
	}
	n := func(i int) uint64 { return binary.BigEndian.Uint64([]byte(sector[i : i+8])) }
	if n(0) == 0 {
		return 0, 0, 0
	}
	return n(0), n(8), n(16)
}

// opened is the log on a disk's bytes, and its records.
func opened(text string) (*model, []string, api.Errno) {
	if len(text) < 3*64 {
		return nil, nil, api.ErrArg
	}
	gen, used, count := say(text[:64])
	if g, u, c := say(text[64:128]); g > gen {
		gen, used, count = g, u, c
	}
	rest := text[128:]
	if gen>>63 == 1 || used > uint64(len(rest)/64) || count > used {
		return nil, nil, api.ErrForm
	}
	rest = rest[:used*64]
	var recs []string
	for range count {
		if rest == "" {
			return nil, nil, api.ErrForm
		}
		n := 256*int(rest[0]) + int(rest[1])
		if n > 1024 || n+2 > len(rest) {
			return nil, nil, api.ErrForm
		}
		recs = append(recs, rest[2:2+n])
		rest = rest[len(recText(rest[2:2+n])):]
	}
	if rest != "" {
		return nil, nil, api.ErrForm
	}
	return &model{text: text, gen: gen, used: int(used), count: int(count)}, recs, api.OK
}

func (m *model) room() int { return len(m.text)/64 - 2 - m.used }

func (m *model) set(sector int, text string) {
	m.text = m.text[:sector*64] + text + m.text[sector*64+64:]
}

// add appends, with power for so many writes (below 0: without end), and tells how many were done.
func (m *model) add(rec string, power int) (api.Errno, int) {
	body := recText(rec)
	switch {
	case m.down:
		return api.ErrDown, 0
	case len(rec) > 1024:
		return api.ErrLong, 0
	case len(body)/64 > m.room():
		return api.ErrFull, 0
	}
	done := 0
	for i := 0; i < len(body)/64; i++ {
		if done == power {
			m.down = true
			return api.ErrDown, done
		}
		m.set(2+m.used+i, body[i*64:i*64+64])
		done++
	}
	if done == power {
		m.down = true
		return api.ErrDown, done
	}
	m.gen, m.used, m.count = m.gen+1, m.used+len(body)/64, m.count+1
	turn := 0
	if m.gen&1 == 1 {
		turn = 1
	}
	m.set(turn, headText(m.gen, uint64(m.used), uint64(m.count)))
	return api.OK, done + 1
}

// of is a disk of bytes that may be.
func of(t *testing.T, text string) *disk.Disk {
	t.Helper()
	d, e := disk.Of([]byte(text))
	if e != api.OK {
		t.Fatal("no disk of", len(text), "bytes:", e)
	}
	return d
}

func texts(recs [][]byte) []string {
	var out []string
	for _, r := range recs {
		out = append(out, string(r))
	}
	return out
}

// open opens a log that may be opened, and holds all that it tells against the chapter told a second time.
func open(t *testing.T, d *disk.Disk) (*slate.Log, []string, *model) {
	t.Helper()
	before, done := string(d.Bytes()), d.Done()
	l, recs, e := slate.Open(d)
	m, want, wrong := opened(before)
	if e != wrong {
		t.Fatal("Open answers", e, "wanted", wrong)
	}
	if string(d.Bytes()) != before || d.Done() != done {
		t.Fatal("Open has written")
	}
	if e != api.OK {
		if l != nil || len(recs) != 0 {
			t.Fatal("beside an error", l, recs)
		}
		return nil, nil, nil
	}
	if l == nil || !slices.Equal(texts(recs), want) {
		t.Fatal("Open answers", l, recs, "wanted", want)
	}
	stands(t, l, d, m)
	return l, texts(recs), m
}

// stands holds what a log and its disk tell against a model.
func stands(t *testing.T, l *slate.Log, d *disk.Disk, m *model) {
	t.Helper()
	if l.Len() != m.count || l.Room() != m.room() || l.Down() != m.down {
		t.Fatal("the log tells", l.Len(), l.Room(), l.Down(), "wanted", m.count, m.room(), m.down)
	}
	if string(d.Bytes()) != m.text {
		t.Fatal("other bytes on the disk", d.Bytes(), "wanted", []byte(m.text))
	}
}

// add appends to a log and to its model, with power for so many writes.
func add(t *testing.T, l *slate.Log, d *disk.Disk, m *model, rec string, power int) api.Errno {
	t.Helper()
	d.Power(power)
	before := d.Done()
	e := l.Append([]byte(rec))
	want, done := m.add(rec, power)
	if e != want || d.Done()-before != done {
		t.Fatal("Append of", len(rec), "with power for", power, "answers", e, "with writes", d.Done()-before, "wanted", want, done)
	}
	stands(t, l, d, m)
	return e
}

// rec is a record of n bytes, of which no two next to each other are alike and none is 0.
func rec(n int, from byte) string {
	b := make([]byte, n)
	for i := range b {
		b[i] = byte(1 + (int(from)+i)%251)
	}
	return string(b)
}

// P6.1: the chapter's examples.
func TestExamples(t *testing.T) {
	d := disk.New(5)
	l, recs, e := slate.Open(d)
	if l == nil || len(recs) != 0 || e != api.OK || l.Len() != 0 || l.Room() != 3 || l.Down() {
		t.Fatal(l, recs, e)
	}
	other := disk.New(5)
	half, _, _ := slate.Open(other)
	other.Power(1)
	if e := half.Append([]byte{7, 8, 9}); e != api.ErrDown || string(other.Bytes()) != pad(noughts(2)+"\x00\x03\x07\x08\x09", 5) {
		t.Error("the first write is the sector 2:", e, other.Bytes())
	}
	d.Power(2)
	if e := l.Append([]byte{7, 8, 9}); e != api.OK {
		t.Error(e)
	}
	one := pad(noughts(1)+headText(1, 1, 1)+"\x00\x03\x07\x08\x09", 5)
	if string(d.Bytes()) != one || l.Len() != 1 || l.Room() != 2 {
		t.Error(d.Bytes(), l.Len(), l.Room())
	}
	d.Power(-1)
	if e := l.Append([]byte(rec(63, 0))); e != api.OK || l.Len() != 2 || l.Room() != 0 || d.Done() != 5 {
		t.Error(e, l.Len(), l.Room(), d.Done())
	}
	two := pad(headText(2, 3, 2)+one[64:192]+"\x00\x3f"+rec(63, 0), 5)
	if string(d.Bytes()) != two {
		t.Error(d.Bytes())
	}
	for _, none := range [][]byte{nil, {}} {
		if e := l.Append(none); e != api.ErrFull || l.Len() != 2 || l.Room() != 0 || l.Down() || string(d.Bytes()) != two {
			t.Error(e, l.Len(), l.Room(), l.Down())
		}
	}
}

// P6.1, R1: no disk, and disks of all small sizes.
func TestSizes(t *testing.T) {
	if l, recs, e := slate.Open(nil); l != nil || len(recs) != 0 || e != api.ErrArg {
		t.Error(l, recs, e)
	}
	for size := range 8 {
		for _, fill := range []byte{0, 1, 0xff} {
			d := of(t, strings.Repeat(string([]byte{fill}), size*64))
			l, recs, e := slate.Open(d)
			if size < 3 {
				if l != nil || len(recs) != 0 || e != api.ErrArg {
					t.Error(size, l, recs, e)
				}
				continue
			}
			// Bytes other than 0 behind a head's 24 make a new log of any disk.
			if l == nil || len(recs) != 0 || e != api.OK || l.Len() != 0 || l.Room() != size-2 || l.Down() {
				t.Error(size, l, recs, e)
			}
			open(t, d)
		}
	}
}

// P6.1: a disk of 3 sectors has room for one record of one sector.
func TestThreeSectors(t *testing.T) {
	for _, n := range []int{0, 1, 61, 62, 63, 1024, 1025} {
		d := disk.New(3)
		l, _, m := open(t, d)
		e, want := add(t, l, d, m, rec(n, 0), -1), api.OK
		switch {
		case n > 1024:
			want = api.ErrLong
		case n > 62:
			want = api.ErrFull
		}
		if e != want {
			t.Fatal(n, e)
		}
		if e != api.OK {
			continue
		}
		if l.Room() != 0 || l.Append(nil) != api.ErrFull {
			t.Error("room for a second one")
		}
		if _, recs, _ := open(t, d); len(recs) != 1 || recs[0] != rec(n, 0) {
			t.Error(recs)
		}
	}
}

// P6.1: records of every length up to MaxRecord, on a disk that has just room for each, and on one that has one sector less; bytes that stood there before are gone.
func TestLengths(t *testing.T) {
	for n := range 1025 {
		need := (n + 2 + 63) / 64
		d := of(t, noughts(2)+strings.Repeat("\xee", need*64))
		l, _, m := open(t, d)
		if e := add(t, l, d, m, rec(n, byte(n)), -1); e != api.OK || l.Room() != 0 {
			t.Fatal(n, e, l.Room())
		}
		if _, recs, _ := open(t, d); len(recs) != 1 || recs[0] != rec(n, byte(n)) {
			t.Fatal(n, recs)
		}
		if need == 1 {
			continue
		}
		d = disk.New(2 + need - 1)
		l, _, m = open(t, d)
		if e := add(t, l, d, m, rec(n, byte(n)), -1); e != api.ErrFull || d.Done() != 0 {
			t.Fatal(n, e)
		}
	}
	for n, need := range map[int]int{0: 1, 1: 1, 61: 1, 62: 1, 63: 2, 64: 2, 126: 2, 127: 3, 1022: 16, 1023: 17, 1024: 17} {
		d := disk.New(40)
		l, _, _ := open(t, d)
		if e := l.Append(make([]byte, n)); e != api.OK || l.Room() != 38-need || d.Done() != need+1 {
			t.Error(n, e, l.Room(), d.Done())
		}
	}
}

// P6.1: a record of more than MaxRecord bytes is none, whatever the room.
func TestLong(t *testing.T) {
	for _, n := range []int{1025, 1026, 1086, 2048, 65536, 65537, 1 << 20} {
		for _, size := range []int{3, 19, 100, 4096} {
			d := disk.New(size)
			l, _, m := open(t, d)
			add(t, l, d, m, "first", -1)
			if e := add(t, l, d, m, rec(n, 0), -1); e != api.ErrLong || l.Down() {
				t.Error(n, size, e)
			}
		}
	}
}

// P6.1: on the greatest disk a log that is just full, of records of one sector and of 17.
func TestFull(t *testing.T) {
	for _, n := range []int{0, 62, 1024} {
		d := disk.New(api.MaxSectors)
		l, _, _ := open(t, d)
		want := 0
		for l.Append([]byte(rec(n, byte(want)))) == api.OK {
			want++
		}
		need := (n + 65) / 64
		if want != 4094/need || l.Len() != want || l.Room() != 4094%need || l.Down() {
			t.Fatal(n, want, l.Len(), l.Room())
		}
		for l.Append([]byte("x")) == api.OK {
			want++
		}
		if l.Room() != 0 || l.Append(nil) != api.ErrFull {
			t.Fatal(n, l.Room())
		}
		l, recs, m := open(t, d)
		if l.Len() != want || len(recs) != want || l.Room() != 0 || m.gen != uint64(want) {
			t.Fatal(n, l.Len(), len(recs), l.Room())
		}
		for i := range 4094 / need {
			if recs[i] != rec(n, byte(i)) {
				t.Fatal(n, "record", i, recs[i])
			}
		}
		if e := l.Append(nil); e != api.ErrFull {
			t.Fatal(e)
		}
	}
}

// P6.1: the writes of one Append, told by the disk behind each number of them; the heads take turns.
func TestWrites(t *testing.T) {
	for _, n := range []int{0, 62, 63, 200, 1024} {
		body := recText(rec(n, 9))
		need := len(body) / 64
		for before := range 4 {
			for power := range need + 2 {
				d := disk.New(40)
				l, _, m := open(t, d)
				for range before {
					add(t, l, d, m, "one", -1)
				}
				first := string(d.Bytes())
				e := add(t, l, d, m, rec(n, 9), power)
				at := (2 + before) * 64
				written := min(power, need) * 64
				want := first[:at] + body[:written] + first[at+written:]
				turn := (before + 1) % 2 * 64
				if power > need {
					want = want[:turn] + headText(uint64(before+1), uint64(before+need), uint64(before+1)) + want[turn+64:]
				}
				if string(d.Bytes()) != want || (e == api.OK) != (power > need) {
					t.Fatal(n, "behind", before, "with power for", power, e, d.Bytes())
				}
			}
		}
	}
}

// P6.1: which head counts, and what it says, at all the edges that the chapter names.
func TestHeads(t *testing.T) {
	const half = 1 << 63
	recs := recText("a") + recText(rec(100, 1)) + recText("") + noughts(2)
	behind := func(head string, at int, c byte) string { return head[:at] + string([]byte{c}) + head[at+1:] }
	ok, form := api.OK, api.ErrForm
	for i, c := range []struct {
		zero, one string
		e         api.Errno
		count     int
		room      int
	}{
		{noughts(1), noughts(1), ok, 0, 6},
		{headText(1, 4, 3), noughts(1), ok, 3, 2},
		{noughts(1), headText(1, 4, 3), ok, 3, 2},
		{headText(2, 3, 2), headText(1, 4, 3), ok, 2, 3},
		{headText(1, 3, 2), headText(2, 4, 3), ok, 3, 2},
		{headText(7, 1, 1), headText(7, 4, 3), ok, 1, 5}, // the sector 0's
		{headText(7, 4, 3), headText(7, 1, 1), ok, 3, 2},
		{headText(7, 0, 0), headText(7, 9, 9), ok, 0, 6},
		{headText(7, 9, 9), headText(7, 0, 0), form, 0, 0},
		{headText(255, 4, 3), headText(256, 1, 1), ok, 1, 5}, // the highest byte first
		{headText(256, 4, 3), headText(255, 1, 1), ok, 3, 2},
		{headText(1<<56, 1, 1), headText(255, 4, 3), ok, 1, 5},
		// The generation 0 says nothing.
		{headText(0, 4, 3), headText(0, 1, 1), ok, 0, 6},
		{headText(0, 99, 99), headText(0, math.MaxUint64, half), ok, 0, 6},
		{headText(0, 4, 3), headText(1, 1, 1), ok, 1, 5},
		{headText(1, 0, 0), noughts(1), ok, 0, 6},
		// Another byte than 0 behind the 24.
		{behind(headText(9, 4, 3), 24, 1), headText(1, 1, 1), ok, 1, 5},
		{behind(headText(9, 4, 3), 63, 255), headText(1, 1, 1), ok, 1, 5},
		{behind(headText(9, 4, 3), 40, 128), noughts(1), ok, 0, 6},
		{headText(1, 1, 1), behind(headText(9, 4, 3), 24, 1), ok, 1, 5},
		{headText(1, 1, 1), behind(headText(9, 4, 3), 63, 1), ok, 1, 5},
		{behind(headText(9, 4, 3), 24, 1), behind(headText(9, 4, 3), 63, 1), ok, 0, 6},
		{behind(headText(half, 4, 3), 24, 1), headText(1, 1, 1), ok, 1, 5},
		{behind(headText(0, 4, 3), 30, 1), behind(headText(math.MaxUint64, 99, 99), 31, 1), ok, 0, 6},
		{behind(headText(9, 4, 3), 23, 2), headText(1, 1, 1), form, 0, 0}, // the last of them still counts
		// The greatest generation, and those that are too great.
		{headText(half-1, 4, 3), headText(half-2, 1, 1), ok, 3, 2},
		{headText(1, 1, 1), headText(half-1, 4, 3), ok, 3, 2},
		{headText(half, 4, 3), headText(half-1, 4, 3), form, 0, 0},
		{headText(half-1, 4, 3), headText(half, 4, 3), form, 0, 0},
		{headText(half, 0, 0), noughts(1), form, 0, 0},
		{noughts(1), headText(half+1, 4, 3), form, 0, 0},
		{headText(math.MaxUint64, 4, 3), headText(5, 4, 3), form, 0, 0},
		// Used sectors and records that can't be.
		{headText(1, 7, 3), noughts(1), form, 0, 0},
		{headText(1, 8, 3), noughts(1), form, 0, 0},
		{headText(1, math.MaxUint64, 3), noughts(1), form, 0, 0},
		{headText(1, half, 3), noughts(1), form, 0, 0},
		{headText(1, 1<<32+4, 3), noughts(1), form, 0, 0},
		{headText(1, 4, 5), noughts(1), form, 0, 0},
		{headText(1, 0, 1), noughts(1), form, 0, 0},
		{headText(1, 4, math.MaxUint64), noughts(1), form, 0, 0},
		{headText(1, 4, 1<<32+3), noughts(1), form, 0, 0},
		{headText(1, math.MaxUint64, math.MaxUint64), noughts(1), form, 0, 0},
		// Other numbers of records or of sectors than there are.
		{headText(1, 4, 2), noughts(1), form, 0, 0},
		{headText(1, 4, 4), noughts(1), form, 0, 0},
		{headText(1, 4, 0), noughts(1), form, 0, 0},
		{headText(1, 3, 3), noughts(1), form, 0, 0},
		{headText(1, 2, 2), noughts(1), form, 0, 0}, // the second reaches behind them
		{headText(1, 2, 1), noughts(1), form, 0, 0},
		{headText(1, 5, 3), noughts(1), form, 0, 0},
		{headText(1, 5, 4), noughts(1), ok, 4, 1}, // noughts are a record of no bytes
		{headText(1, 6, 5), noughts(1), ok, 5, 0},
		{headText(1, 6, 6), noughts(1), form, 0, 0},
		// The lesser head may say what it will.
		{headText(2, 4, 3), headText(1, 99, 99), ok, 3, 2},
		{headText(1, 4, 9), headText(2, 4, 3), ok, 3, 2},
	} {
		d := of(t, c.zero+c.one+recs)
		l, got, e := slate.Open(d)
		if e != c.e || len(got) != c.count || l.Len() != c.count || l.Room() != c.room || (l == nil) != (e != ok) {
			t.Error(i, "answers", l, got, e)
		}
		open(t, d)
	}
}

// P6.1: each byte behind a head's 24, whatever it is, undoes the head; each of the 24 belongs to it.
func TestHeadBytes(t *testing.T) {
	rest := recText("a") + noughts(3)
	for at := range 64 {
		for _, c := range []byte{1, 2, 127, 128, 255} {
			for _, zero := range []bool{true, false} {
				h := []byte(headText(5, 1, 1))
				h[at] |= c
				text := string(h) + headText(4, 0, 0) + rest
				if !zero {
					text = headText(4, 0, 0) + string(h) + rest
				}
				l, _, m := open(t, of(t, text))
				if at >= 24 && (l.Len() != 0 || m.gen != 4) {
					t.Fatal(at, c, l.Len())
				}
			}
		}
	}
}

// P6.1: of the records on a disk each length counts, one that is too long or reaches behind the used sectors is none; what is left of a last sector may be anything.
func TestRecordsOnTheDisk(t *testing.T) {
	for _, n := range []int{0, 1, 62, 63, 126, 127, 255, 256, 1022, 1023, 1024, 1025, 1026, 1086, 1087, 1088, 1280, 2048, 32768, 65535} {
		for used := 1; used <= 40; used++ {
			body := []byte(strings.Repeat("\xdd", 40*64))
			body[0], body[1] = byte(n>>8), byte(n)
			d := of(t, headText(2, uint64(used), 1)+noughts(1)+string(body))
			l, recs, e := slate.Open(d)
			if n <= 1024 && used == (n+65)/64 {
				if e != api.OK || len(recs) != 1 || string(recs[0]) != strings.Repeat("\xdd", n) || l.Room() != 40-used {
					t.Fatal(n, used, recs, e)
				}
			} else if e != api.ErrForm || l != nil || len(recs) != 0 {
				t.Fatal(n, used, recs, e)
			}
			open(t, d)
		}
	}
}

// P6.1, R5: records behind a right one may be wrong too; then none is answered.
func TestWrongBehindRight(t *testing.T) {
	good := recText("a") + recText(rec(70, 0))
	for _, bad := range []string{"\x04\x01", "\xff\xff", "\x00\x3f", "\x80\x00"} {
		text := pad(headText(3, 4, 3)+noughts(1)+good+bad, 6)
		if l, recs, e := slate.Open(of(t, text)); l != nil || len(recs) != 0 || e != api.ErrForm {
			t.Error([]byte(bad), l, recs, e)
		}
	}
}

// P6.1: disks of any bytes, most of them nearly right.
func TestDisks(t *testing.T) {
	r := rand.New(rand.NewSource(6))
	kinds := map[api.Errno]int{}
	for range 30000 {
		d := of(t, aDisk(r))
		l, _, m := open(t, d)
		if l == nil {
			kinds[api.ErrForm]++
			continue
		}
		kinds[api.OK]++
		for range 3 {
			add(t, l, d, m, rec(aLength(r), byte(r.Intn(256))), r.Intn(9)-1)
		}
		d.Power(-1)
		if m.gen < 1<<63 {
			open(t, d)
		}
	}
	if kinds[api.OK] < 3000 || kinds[api.ErrForm] < 3000 {
		t.Error("too few of a kind:", kinds)
	}
}

func aLength(r *rand.Rand) int {
	return []int{0, 1, 61, 62, 63, 64, 126, 127, r.Intn(300), r.Intn(1025), 1024, 1025}[r.Intn(12)]
}

// aDisk is the bytes of one: a log's, then changed here and there.
func aDisk(r *rand.Rand) string {
	size := 3 + r.Intn(10)
	if r.Intn(8) == 0 {
		size = r.Intn(30) + 3
	}
	body, count := "", 0
	for range r.Intn(5) {
		if s := recText(rec(aLength(r)%1025, byte(r.Intn(256)))); len(body)+len(s) <= (size-2)*64 {
			body, count = body+s, count+1
		}
	}
	heads := []string{aHead(r, uint64(len(body)/64), uint64(count)), aHead(r, uint64(len(body)/64), uint64(count))}
	if r.Intn(2) == 0 {
		heads[r.Intn(2)] = headText(uint64(r.Intn(4)), uint64(r.Intn(size)), uint64(r.Intn(4)))
	}
	b := []byte(pad(heads[0]+heads[1]+body, size))
	for range r.Intn(3) {
		at := r.Intn(len(b))
		if r.Intn(2) == 0 {
			at = at / 64 * 64
		}
		b[at] = []byte{0, 1, 2, 4, 128, 255}[r.Intn(6)]
	}
	return string(b)
}

func aHead(r *rand.Rand, used, count uint64) string {
	gen := []uint64{0, 1, 2, 3, 255, 256, 1<<63 - 2, 1<<63 - 1, 1 << 63, math.MaxUint64}[r.Intn(10)]
	if r.Intn(2) == 0 {
		gen = uint64(r.Intn(5))
	}
	if r.Intn(6) == 0 {
		used += uint64(r.Intn(3)) - 1
	}
	if r.Intn(6) == 0 {
		count += uint64(r.Intn(3)) - 1
	}
	return headText(gen, used, count)
}

// P6.1: behind the greatest generation that may be opened, Append writes the next one as of any other; that one isn't opened.
func TestGreatestGeneration(t *testing.T) {
	for _, gen := range []uint64{1<<63 - 3, 1<<63 - 2, 1<<63 - 1} {
		for _, zero := range []bool{true, false} {
			text := headText(gen, 1, 1) + noughts(1)
			if !zero {
				text = noughts(1) + headText(gen, 1, 1)
			}
			d := of(t, pad(text+recText("a"), 6))
			l, _, m := open(t, d)
			if e := add(t, l, d, m, "b", -1); e != api.OK || l.Len() != 2 {
				t.Fatal(gen, e)
			}
			want := api.OK
			if gen == 1<<63-1 {
				want = api.ErrForm
			}
			if _, _, e := slate.Open(d); e != want {
				t.Fatal(gen, e)
			}
			if e := add(t, l, d, m, "c", -1); e != api.OK || l.Len() != 3 {
				t.Fatal(gen, e)
			}
		}
	}
}

// P6.1: the next head goes where its generation says, even over the one that counts.
func TestHeadInTheOtherSector(t *testing.T) {
	for gen := uint64(1); gen < 5; gen++ {
		for sector := range 2 {
			h := []string{noughts(1), noughts(1)}
			h[sector] = headText(gen, 1, 1)
			for power := range 4 {
				d := of(t, pad(h[0]+h[1]+recText("a"), 6))
				l, _, m := open(t, d)
				e := add(t, l, d, m, "b", power)
				d.Power(-1)
				_, recs, _ := open(t, d)
				want := []string{"a"}
				if e == api.OK {
					want = []string{"a", "b"}
				}
				if !slices.Equal(recs, want) || (e == api.OK) != (power > 1) {
					t.Fatal(gen, sector, power, e, recs)
				}
			}
		}
	}
}

// P6.2: wherever power fails, and fails again behind the next opening, what was answered with OK is there, in order, and nothing else.
func TestKept(t *testing.T) {
	logs := [][]int{{3}, {0, 0, 0}, {62, 63}, {1024, 1, 1024}, {5, 200, 63, 62, 0, 127}}
	for _, lengths := range logs {
		most := 0
		for _, n := range lengths {
			most += (n+65)/64 + 1
		}
		for first := range most + 1 {
			for second := range most + 1 {
				d := disk.New(100)
				kept := fillUp(t, d, nil, lengths, first)
				if first == most && len(kept) != len(lengths) {
					t.Fatal("power for all writes, but kept are", len(kept))
				}
				kept = fillUp(t, d, kept, lengths, second)
				kept = fillUp(t, d, kept, []int{1}, -1)
				if _, recs, _ := open(t, d); !slices.Equal(recs, kept) {
					t.Fatal(lengths, first, second, recs)
				}
			}
		}
	}
}

// fillUp opens a log, holds its records against those that must be kept, and appends under power for so many writes; all that is kept now is answered.
func fillUp(t *testing.T, d *disk.Disk, kept []string, lengths []int, power int) []string {
	t.Helper()
	l, recs, e := slate.Open(d)
	if e != api.OK || !slices.Equal(texts(recs), kept) || l.Len() != len(kept) || l.Down() {
		t.Fatal("opened again:", recs, e, "wanted", kept)
	}
	d.Power(power)
	failed := false
	for _, n := range lengths {
		text := rec(n, byte(7*len(kept)+n))
		switch e := l.Append([]byte(text)); {
		case e == api.OK && !failed:
			kept = append(kept, text)
		case e != api.ErrDown || !l.Down():
			t.Fatal("behind", len(kept), "answers", e, l.Down())
		default:
			failed = true
		}
		if l.Len() != len(kept) {
			t.Fatal("Len", l.Len(), "wanted", len(kept))
		}
	}
	d.Power(-1)
	return kept
}

// P6.2: long stories of openings, appends and failures of power, till the disk is full; each step is held against the chapter told a second time.
func TestStories(t *testing.T) {
	r := rand.New(rand.NewSource(62))
	for range 150 {
		d := disk.New([]int{3, 4, 5, 8, 30, 120}[r.Intn(6)])
		var kept []string
		for range 12 {
			l, recs, m := open(t, d)
			if !slices.Equal(recs, kept) {
				t.Fatal("opened again:", recs, "wanted", kept)
			}
			for range r.Intn(6) {
				power := -1
				if r.Intn(3) == 0 {
					power = r.Intn(19)
				}
				text := rec(aLength(r), byte(r.Intn(256)))
				if add(t, l, d, m, text, power) == api.OK {
					kept = append(kept, text)
				}
			}
			d.Power(r.Intn(3) - 1)
		}
	}
}

// P6.2: what a failed Append left on the disk never becomes part of a record that comes later.
func TestLeftOver(t *testing.T) {
	d := disk.New(30)
	l, _, m := open(t, d)
	add(t, l, d, m, rec(1024, 1), 17)
	l, recs, m := open(t, d)
	if len(recs) != 0 {
		t.Fatal(recs)
	}
	for _, n := range []int{0, 3, 63} {
		add(t, l, d, m, rec(n, 50), -1)
	}
	if _, recs, _ := open(t, d); !slices.Equal(recs, []string{"", rec(3, 50), rec(63, 50)}) {
		t.Fatal(recs)
	}
}

// P6.3: opened twice, thrice, and on a copy of its disk's bytes, a log has the same records; so it has, if power is gone.
func TestTwice(t *testing.T) {
	r := rand.New(rand.NewSource(63))
	for range 3000 {
		text := aDisk(r)
		d, other := of(t, text), of(t, text)
		d.Power(r.Intn(3) - 1)
		l, first, e := slate.Open(d)
		for range 2 {
			again, recs, wrong := slate.Open(d)
			if wrong != e || !slices.Equal(texts(recs), texts(first)) || (again == nil) != (l == nil) || again.Len() != l.Len() || again.Room() != l.Room() || again.Down() {
				t.Fatal("opened again:", recs, wrong, "first", first, e)
			}
		}
		if _, recs, wrong := slate.Open(other); wrong != e || !slices.Equal(texts(recs), texts(first)) {
			t.Fatal("on another disk:", recs, wrong, "first", first, e)
		}
		if string(d.Bytes()) != text || d.Done() != 0 {
			t.Fatal("Open has written")
		}
	}
}

// P6.3: so has a log that was appended to, whether or not power failed it.
func TestTwiceBehindAppends(t *testing.T) {
	for power := range 12 {
		d := disk.New(20)
		l, _, _ := slate.Open(d)
		d.Power(power)
		for i := range 4 {
			l.Append([]byte(rec(40*i, byte(i))))
		}
		_, first, _ := slate.Open(d)
		_, second, _ := slate.Open(d)
		if !slices.Equal(texts(first), texts(second)) || len(first) != l.Len() {
			t.Fatal(power, first, second)
		}
	}
}

// P6.1: a log that is down stays so, whatever becomes of the power, and writes nothing any more; another one on the same disk isn't.
func TestDown(t *testing.T) {
	for power := range 3 {
		d := disk.New(10)
		l, _, m := open(t, d)
		add(t, l, d, m, "a", -1)
		if e := add(t, l, d, m, rec(100, 0), power); e != api.ErrDown || !l.Down() || l.Len() != 1 || l.Room() != 7 {
			t.Fatal(power, e, l.Down(), l.Len(), l.Room())
		}
		for _, n := range []int{0, 1, 62, 63, 1024, 1025, 5000} {
			if e := add(t, l, d, m, rec(n, 0), -1); e != api.ErrDown {
				t.Fatal(n, e)
			}
		}
		if again, _, _ := open(t, d); again.Down() || again.Append([]byte("b")) != api.OK {
			t.Fatal("the log that was opened again is down")
		}
	}
}

// P6.1, R6: of all that is wrong with an Append the first counts, and nothing changes.
func TestFirstCounts(t *testing.T) {
	for _, nilLog := range []bool{true, false} {
		for _, down := range []bool{true, false} {
			for _, n := range []int{0, 1, 62, 63, 1024, 1025, 9999} {
				for _, size := range []int{3, 4, 5, 22} {
					for _, power := range []int{0, 1, -1} {
						firstCounts(t, nilLog, down, n, size, power)
					}
				}
			}
		}
	}
}

func firstCounts(t *testing.T, nilLog, down bool, n, size, power int) {
	t.Helper()
	d := disk.New(size)
	l, _, m := open(t, d)
	if size > 3 {
		add(t, l, d, m, "a", -1)
	}
	if down {
		add(t, l, d, m, "b", 0)
	}
	want, _ := (&model{text: m.text, used: m.used, down: m.down}).add(rec(n, 0), power)
	if nilLog {
		l, want = nil, api.ErrArg
	}
	before, done := string(d.Bytes()), d.Done()
	d.Power(power)
	if e := l.Append([]byte(rec(n, 0))); e != want {
		t.Fatal(nilLog, down, n, size, power, "answers", e, "wanted", want)
	}
	if wrote := d.Done() != done || string(d.Bytes()) != before; want != api.OK && wrote && (nilLog || down || n > 1024 || power == 0) {
		t.Fatal(nilLog, down, n, size, power, "has written")
	}
	if nilLog {
		return
	}
	if now := want == api.ErrDown; l.Down() != now {
		t.Fatal(nilLog, down, n, size, power, "down", l.Down())
	}
}

// P6.1, R6: a record that is too long or finds no room neither takes power nor puts the log down.
func TestWrongTakesNothing(t *testing.T) {
	d := disk.New(5)
	l, _, m := open(t, d)
	d.Power(2)
	for _, n := range []int{1025, 200, 2000, 1024} {
		if e := l.Append(make([]byte, n)); e == api.OK || e == api.ErrDown || l.Down() || l.Len() != 0 || l.Room() != 3 || d.Done() != 0 {
			t.Fatal(n, e, l.Down(), l.Len(), l.Room(), d.Done())
		}
	}
	if e := add(t, l, d, m, "a", 2); e != api.OK {
		t.Fatal(e)
	}
}

// P6.1, R1: a nil log.
func TestNil(t *testing.T) {
	var l *slate.Log
	for _, n := range []int{0, 1, 1024, 1025} {
		if e := l.Append(make([]byte, n)); e != api.ErrArg {
			t.Error(n, e)
		}
	}
	if e := l.Append(nil); e != api.ErrArg {
		t.Error(e)
	}
	if l.Len() != 0 || l.Room() != 0 || l.Down() {
		t.Error(l.Len(), l.Room(), l.Down())
	}
}

// P6.1: Open needs no power and takes none; a log opened without power is down only behind an Append.
func TestOpenWithoutPower(t *testing.T) {
	d := of(t, pad(headText(2, 1, 1)+noughts(1)+recText("a"), 5))
	d.Power(0)
	l, recs, m := open(t, d)
	if len(recs) != 1 || l.Down() {
		t.Fatal(recs, l.Down())
	}
	if e := add(t, l, d, m, "b", 0); e != api.ErrDown || !l.Down() || d.Done() != 0 {
		t.Fatal(e)
	}
}

// R3: a record that is appended stays as it is, spare room too, and what becomes of it later no log sees.
func TestHandedIn(t *testing.T) {
	for _, n := range []int{0, 3, 62, 63, 500, 1024} {
		room := []byte(rec(2000, 5))
		d := disk.New(40)
		l, _, _ := open(t, d)
		given := room[100 : 100+n : 1900]
		if e := l.Append(given); e != api.OK || string(room) != rec(2000, 5) {
			t.Fatal(n, e, "the argument has changed")
		}
		clear(room)
		if e := l.Append([]byte("next")); e != api.OK {
			t.Fatal(e)
		}
		if _, recs, _ := open(t, d); recs[0] != rec(2000, 5)[100:100+n] || recs[1] != "next" {
			t.Fatal(n, "other bytes behind the call:", recs)
		}
		d.Power(1)
		room = []byte(rec(2000, 5))
		l.Append(room[:70])
		l.Append(room[:1025])
		if string(room) != rec(2000, 5) {
			t.Fatal("the argument has changed")
		}
	}
}

// R3: records that are answered are new memory, spare room too: whoever changes them, or the list, changes neither the disk nor another record.
func TestAnswers(t *testing.T) {
	d := disk.New(60)
	l, _, _ := open(t, d)
	lengths := []int{0, 1, 62, 63, 0, 200, 1024, 5}
	for i, n := range lengths {
		l.Append([]byte(rec(n, byte(i))))
	}
	text := string(d.Bytes())
	for spoilt := range lengths {
		_, recs, _ := slate.Open(d)
		_, others, _ := slate.Open(d)
		b := recs[spoilt][:cap(recs[spoilt])]
		for i := range b {
			b[i] = ^b[i]
		}
		for i, n := range lengths {
			if i != spoilt && string(recs[i]) != rec(n, byte(i)) || string(others[i]) != rec(n, byte(i)) {
				t.Fatal("records share memory:", spoilt, i)
			}
		}
		clear(recs[:cap(recs)])
		if len(others) != len(lengths) || others[spoilt] == nil && lengths[spoilt] > 0 {
			t.Fatal("lists share memory")
		}
		if string(d.Bytes()) != text {
			t.Fatal("a record shares memory with the disk")
		}
	}
	_, recs, _ := slate.Open(d)
	for i := range d.Size() {
		d.Write(i, bytes.Repeat([]byte{0x5a}, 64))
	}
	for i, n := range lengths {
		if string(recs[i]) != rec(n, byte(i)) {
			t.Fatal("a write changed a record")
		}
	}
}

// R3: a log's numbers are its own: what is done to what Open answered changes none of them.
func TestKeepsNothingOfTheAnswer(t *testing.T) {
	d := of(t, pad(headText(2, 3, 2)+noughts(1)+recText("a")+recText(rec(63, 0)), 8))
	l, recs, _ := slate.Open(d)
	m, _, _ := opened(string(d.Bytes()))
	for _, r := range recs {
		clear(r[:cap(r)])
	}
	clear(recs)
	stands(t, l, d, m)
	add(t, l, d, m, "b", -1)
	if _, recs, _ := open(t, d); !slices.Equal(recs, []string{"a", rec(63, 0), "b"}) {
		t.Fatal(recs)
	}
}

// R2: logs on two disks are nothing to each other.
func TestTwoLogs(t *testing.T) {
	a, b := disk.New(5), disk.New(5)
	la, _, ma := open(t, a)
	lb, _, mb := open(t, b)
	add(t, la, a, ma, "a", 0)
	if e := add(t, lb, b, mb, "b", -1); e != api.OK || la.Len() != 0 || !la.Down() || lb.Down() {
		t.Fatal(e)
	}
}
