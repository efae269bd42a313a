package disk_test

import (
	"bytes"
	"math"
	"math/rand"
	"testing"

	"annulet/api"
	"annulet/disk"
)

// What the chapter says of a disk, told a second time: nothing is kept but what was asked, and each answer is found by going over it from the beginning.

// ask is a write or, where power holds, a setting of power.
type ask struct {
	power bool
	n     int // the sector, or the writes that there is power for
	text  string
}

// told is a disk as it was made, and all that it was asked since.
type told struct {
	first string
	asks  []ask
}

// run is the disk's bytes now, how many writes were done, and the errors of all asks.
func (m told) run() (string, int, []api.Errno) {
	now, done := m.first, 0
	ends, left := false, 0
	var errs []api.Errno
	for _, a := range m.asks {
		e := api.OK
		switch {
		case a.power:
			ends, left = a.n >= 0, a.n
		case a.n < 0 || a.n > len(now)/64-1:
			e = api.ErrArg
		case len(a.text) > 64:
			e = api.ErrLong
		case ends && left == 0:
			e = api.ErrDown
		default:
			noughts := string(make([]byte, 64-len(a.text)))
			now = now[:a.n*64] + a.text + noughts + now[(a.n+1)*64:]
			done++
			left--
		}
		errs = append(errs, e)
	}
	return now, done, errs
}

// do asks a disk.
func do(d *disk.Disk, a ask) api.Errno {
	if a.power {
		d.Power(a.n)
		return api.OK
	}
	return d.Write(a.n, []byte(a.text))
}

// same holds all that a disk tells against bytes and a number of writes.
func same(t *testing.T, what string, d *disk.Disk, want string, done int) {
	t.Helper()
	if string(d.Bytes()) != want {
		t.Fatal(what, "other bytes", d.Bytes(), "wanted", []byte(want))
	}
	if d.Size() != len(want)/64 {
		t.Fatal(what, "size", d.Size(), "wanted", len(want)/64)
	}
	if d.Done() != done {
		t.Fatal(what, "done", d.Done(), "wanted", done)
	}
	for i := range d.Size() {
		if b, e := d.Read(i); e != api.OK || string(b) != want[i*64:(i+1)*64] {
			t.Fatal(what, "sector", i, b, e)
		}
	}
	for _, i := range []int{math.MinInt, -64, -1, d.Size(), d.Size() + 1, d.Size() * 64, api.MaxSectors, math.MaxInt} {
		if b, e := d.Read(i); e != api.ErrArg || len(b) != 0 {
			t.Fatal(what, "no sector", i, b, e)
		}
	}
}

func noughts(sectors int) string { return string(make([]byte, sectors*64)) }

// full is sectors of which no two bytes next to each other are alike, and none is 0.
func full(sectors int) string {
	b := make([]byte, sectors*64)
	for i := range b {
		b[i] = byte(1 + (i+i/64)%251)
	}
	return string(b)
}

// of is a disk of bytes that may be.
func of(t *testing.T, s string) *disk.Disk {
	t.Helper()
	d, e := disk.Of([]byte(s))
	if d == nil || e != api.OK {
		t.Fatal("Of", len(s), "answers", d, e)
	}
	return d
}

// P5.1: the chapter's example.
func TestExample(t *testing.T) {
	d := disk.New(2)
	d.Power(1)
	if e := d.Write(0, []byte{7}); e != api.OK {
		t.Error(e)
	}
	if e := d.Write(1, []byte{7}); e != api.ErrDown {
		t.Error(e)
	}
	if b, e := d.Read(1); e != api.OK || !bytes.Equal(b, make([]byte, 64)) {
		t.Error(b, e)
	}
	same(t, "the example", d, "\x07"+noughts(2)[1:], 1)
}

// P5.1: New at ordinary sizes, at its bounds and beyond them.
func TestNew(t *testing.T) {
	for sectors, size := range map[int]int{math.MinInt: 0, -4096: 0, -1: 0, 0: 0, 1: 1, 2: 2, 7: 7, 64: 64, 4095: 4095, 4096: 4096, 4097: 4096, 5000: 4096, 1 << 32: 4096, math.MaxInt: 4096} {
		same(t, "New", disk.New(sectors), noughts(size), 0)
	}
}

// P5.1: Of at every length near a whole number of sectors, at its bounds and beyond them.
func TestOf(t *testing.T) {
	for _, sectors := range []int{0, 1, 2, 3, 64, 4094, 4095, 4096, 4097, 4098, 8192} {
		for _, more := range []int{-64, -63, -33, -32, -1, 0, 1, 16, 32, 63} {
			n := sectors*64 + more
			if n < 0 {
				continue
			}
			b := []byte(full(n/64 + 1))[:n]
			d, e := disk.Of(b)
			if n%64 == 0 && n <= 262144 {
				if d == nil || e != api.OK {
					t.Fatal(n, "bytes:", d, e)
				}
				same(t, "Of", d, string(b), 0)
			} else if d != nil || e != api.ErrArg {
				t.Fatal(n, "bytes:", d, e)
			}
		}
	}
	for _, b := range [][]byte{nil, {}} {
		d, e := disk.Of(b)
		if d == nil || e != api.OK {
			t.Fatal("no bytes:", d, e)
		}
		same(t, "no bytes", d, "", 0)
	}
}

// P5.1: of both kinds of disks the power has no end.
func TestPowerAtFirst(t *testing.T) {
	for _, d := range []*disk.Disk{disk.New(2), of(t, full(2))} {
		for i := range 1000 {
			if e := d.Write(i%2, []byte{byte(i)}); e != api.OK || d.Done() != i+1 {
				t.Fatal(i, e, d.Done())
			}
		}
	}
}

// P5.1: writes of every length at the first sector, the last one and one between; noughts stand behind what is written, and no other sector changes.
func TestWrite(t *testing.T) {
	for _, size := range []int{1, 2, 5} {
		for _, i := range []int{0, size / 2, size - 1} {
			for n := range 65 {
				d, first := of(t, full(size)), full(size)
				text := bytes.Repeat([]byte{0xff}, n)
				if e := d.Write(i, text); e != api.OK {
					t.Fatal(size, i, n, e)
				}
				want := first[:i*64] + string(text) + noughts(1)[n:] + first[(i+1)*64:]
				same(t, "a write", d, want, 1)
			}
		}
	}
}

// P5.1: the last sector of the greatest disk, and the one behind it.
func TestGreatest(t *testing.T) {
	for _, d := range []*disk.Disk{disk.New(api.MaxSectors), of(t, noughts(api.MaxSectors))} {
		if e := d.Write(4096, []byte{1}); e != api.ErrArg {
			t.Error(e)
		}
		if e := d.Write(4095, bytes.Repeat([]byte{9}, 64)); e != api.OK {
			t.Error(e)
		}
		same(t, "the greatest", d, noughts(4095)+string(bytes.Repeat([]byte{9}, 64)), 1)
	}
}

// P5.1, R6: of all that is wrong with a write the first counts, and nothing changes: no byte, no count, no power.
func TestWrongWrites(t *testing.T) {
	for _, size := range []int{0, 1, 3} {
		for _, i := range []int{math.MinInt, -1, 0, size - 1, size, size + 1, 4096, math.MaxInt} {
			for _, n := range []int{0, 1, 64, 65, 66, 128, 5000} {
				for _, power := range []int{0, 1, -1} {
					wrongWrite(t, size, i, n, power)
				}
			}
		}
	}
}

func wrongWrite(t *testing.T, size, i, n, power int) {
	t.Helper()
	d := of(t, full(size))
	d.Power(power)
	want := api.OK
	if power == 0 {
		want = api.ErrDown
	}
	if n > 64 {
		want = api.ErrLong
	}
	if i < 0 || i >= size {
		want = api.ErrArg
	}
	if want == api.OK {
		return
	}
	if e := d.Write(i, make([]byte, n)); e != want {
		t.Fatal(size, i, n, power, "answers", e, "wanted", want)
	}
	same(t, "a wrong write", d, full(size), 0)
	if size == 0 {
		return
	}
	for k := range 3 {
		e, want := d.Write(0, []byte{byte(k)}), api.OK
		if power >= 0 && k >= power {
			want = api.ErrDown
		}
		if e != want {
			t.Fatal(size, i, n, power, "write", k, "behind it answers", e, "wanted", want)
		}
	}
}

// P5.1: scripts of calls, each answer held against the chapter told a second time.
func TestScripts(t *testing.T) {
	r := rand.New(rand.NewSource(5))
	for k := range 600 {
		size := []int{0, 1, 2, 3, 5, 17}[k%6]
		m := told{first: noughts(size)}
		d := disk.New(size)
		if k%4 > 1 {
			m.first = full(size)
			d = of(t, m.first)
		}
		for range 1 + r.Intn(40) {
			a := anAsk(r, size)
			m.asks = append(m.asks, a)
			e := do(d, a)
			now, done, errs := m.run()
			if e != errs[len(errs)-1] {
				t.Fatal(m.asks, "answers", e, "wanted", errs)
			}
			same(t, "a script", d, now, done)
		}
	}
}

// anAsk is mostly a write that may be.
func anAsk(r *rand.Rand, size int) ask {
	if r.Intn(5) == 0 {
		return ask{power: true, n: r.Intn(7) - 2}
	}
	a := ask{n: r.Intn(size + 1)}
	if r.Intn(8) == 0 {
		a.n = r.Intn(3*size+9) - size - 4
	}
	n := r.Intn(65)
	if r.Intn(8) == 0 {
		n = 60 + r.Intn(10)
	}
	b := make([]byte, n)
	r.Read(b)
	a.text = string(b)
	return a
}

// P5.2: with power for n writes just the first n of those that may be are done, each whole; those that may not be cost none.
func TestPower(t *testing.T) {
	r := rand.New(rand.NewSource(52))
	for n := range 12 {
		for range 30 {
			d, want, done := of(t, full(4)), full(4), 0
			d.Power(n)
			for range 30 {
				i, text := r.Intn(6)-1, bytes.Repeat([]byte{byte(r.Intn(256))}, r.Intn(70))
				e := d.Write(i, text)
				may := i >= 0 && i < 4 && len(text) <= 64
				if (e == api.OK) != (may && done < n) || (e == api.ErrDown) != (may && done == n) {
					t.Fatal("power for", n, "after", done, "answers", e)
				}
				if e == api.OK {
					want = want[:i*64] + string(text) + noughts(1)[len(text):] + want[(i+1)*64:]
					done++
				}
				same(t, "power", d, want, done)
			}
		}
	}
}

// P5.2: the answers of writes under power for n are n times OK, then ErrDown.
func TestPowerAnswers(t *testing.T) {
	for _, n := range []int{0, 1, 2, 3, 64, 1000} {
		d := disk.New(1)
		d.Power(n)
		for k := range n + 3 {
			want := api.OK
			if k >= n {
				want = api.ErrDown
			}
			if e := d.Write(0, []byte{byte(k)}); e != want {
				t.Fatal("power for", n, "write", k, "answers", e)
			}
		}
		if d.Done() != n {
			t.Fatal("power for", n, "done", d.Done())
		}
	}
}

// P5.2: power counts from the last call on, whatever was left; below 0 it has no end again.
func TestPowerAgain(t *testing.T) {
	for _, before := range []int{math.MinInt, -1, 0, 1, 5, math.MaxInt} {
		for _, n := range []int{math.MinInt, math.MinInt + 1, -300, -2, -1, 0, 1, 2, 3, math.MaxInt} {
			for between := range 4 {
				d := disk.New(1)
				d.Power(before)
				for range between {
					d.Write(0, nil)
				}
				from := d.Done()
				d.Power(n)
				if d.Done() != from {
					t.Fatal("Power changed Done")
				}
				for range 400 {
					d.Write(0, nil)
				}
				want := 400
				if n >= 0 && n < 400 {
					want = n
				}
				if d.Done()-from != want {
					t.Fatal(before, between, n, "done", d.Done()-from, "wanted", want)
				}
			}
		}
	}
}

// P5.1: reading needs no power, and takes none.
func TestReadWithoutPower(t *testing.T) {
	d := of(t, full(3))
	d.Power(0)
	same(t, "no power", d, full(3), 0)
	d.Power(1)
	same(t, "power for one", d, full(3), 0)
	if e := d.Write(2, nil); e != api.OK {
		t.Error(e)
	}
	same(t, "a write of nothing", d, full(3)[:128]+noughts(1), 1)
}

// P5.1: a write of no bytes, and of the bytes that stand there already, is a write.
func TestWriteOfNothing(t *testing.T) {
	for _, b := range [][]byte{nil, {}, make([]byte, 64)} {
		d := disk.New(1)
		d.Power(2)
		for k, want := range []api.Errno{api.OK, api.OK, api.ErrDown} {
			if e := d.Write(0, b); e != want {
				t.Fatal(b, k, e)
			}
		}
		same(t, "a write of nothing", d, noughts(1), 2)
	}
}

// P5.1, R1: a nil disk.
func TestNil(t *testing.T) {
	var d *disk.Disk
	for _, n := range []int{math.MinInt, -1, 0, 1, math.MaxInt} {
		d.Power(n)
		for _, i := range []int{math.MinInt, -1, 0, 1, math.MaxInt} {
			if b, e := d.Read(i); len(b) != 0 || e != api.ErrArg {
				t.Error(i, b, e)
			}
			for _, b := range [][]byte{nil, make([]byte, 64), make([]byte, 65)} {
				if e := d.Write(i, b); e != api.ErrArg {
					t.Error(i, len(b), e)
				}
			}
		}
		if d.Size() != 0 || d.Done() != 0 || len(d.Bytes()) != 0 {
			t.Error(d.Size(), d.Done(), d.Bytes())
		}
	}
}

// R3: bytes that are handed in stay as they are, spare room too, and what becomes of them later no disk sees.
func TestHandedIn(t *testing.T) {
	room := []byte(full(4))
	d, e := disk.Of(room[64:128:192])
	if e != api.OK {
		t.Fatal(e)
	}
	if e := d.Write(0, room[70:80:256]); e != api.OK {
		t.Fatal(e)
	}
	if e := d.Write(0, room[70:135]); e != api.ErrLong {
		t.Fatal(e)
	}
	if string(room) != full(4) {
		t.Fatal("the arguments have changed")
	}
	want := full(4)[70:80] + noughts(1)[10:]
	clear(room)
	same(t, "other bytes behind the call", d, want, 1)

	room = []byte(full(2))
	d, _ = disk.Of(room)
	clear(room)
	same(t, "a disk of bytes", d, full(2), 0)
	d.Write(1, []byte{1})
	if string(room) != noughts(2) {
		t.Fatal("a write changed the bytes that the disk was made of")
	}
}

// R3: answers are new memory, spare room too: whoever changes them changes neither the disk nor another answer.
func TestAnswers(t *testing.T) {
	d := of(t, full(3))
	spoil := func(b []byte) { clear(b[:cap(b)]) }
	for i := range 3 {
		one, _ := d.Read(i)
		two, _ := d.Read(i)
		spoil(one)
		if string(two) != full(3)[i*64:(i+1)*64] {
			t.Fatal("two answers of Read share memory")
		}
	}
	one, two := d.Bytes(), d.Bytes()
	spoil(one)
	if string(two) != full(3) {
		t.Fatal("two answers of Bytes share memory")
	}
	same(t, "spoilt answers", d, full(3), 0)

	read, _ := d.Read(1)
	all := d.Bytes()
	d.Write(1, []byte("new"))
	if string(read) != full(3)[64:128] || string(all) != full(3) {
		t.Fatal("a write changed an answer")
	}

	other := of(t, string(d.Bytes()))
	other.Write(0, nil)
	if string(d.Bytes()[:64]) != full(3)[:64] {
		t.Fatal("two disks share sectors")
	}
}

// R2: disks are nothing to each other.
func TestTwoDisks(t *testing.T) {
	a, b := disk.New(1), disk.New(1)
	a.Power(0)
	if e := b.Write(0, []byte{1}); e != api.OK || a.Done() != 0 {
		t.Fatal(e, a.Done())
	}
	same(t, "the other disk", a, noughts(1), 0)
}
