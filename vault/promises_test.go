package vault_test

import (
	"math/rand"
	"slices"
	"testing"

	"annulet/api"
	"annulet/disk"
	"annulet/vault"
)

// keeper looks at P18.2 and P18.3 alone: it knows which calls answered OK, which one failed, and which beginnings there were, and nothing of records and sectors.
type keeper struct {
	*testing.T
	d       *disk.Disk
	v       *vault.Vault
	ok      map[api.ID][]api.Item // that Put or Merge answered OK for and took
	past    map[api.ID][]api.Ver  // that Merge answered OK for and didn't take
	writing map[api.ID][]api.Item // that were being written when power failed
	inc     int64                 // the last beginning's
}

func keeping(t *testing.T, d *disk.Disk) *keeper {
	return &keeper{T: t, d: d, ok: map[api.ID][]api.Item{}, past: map[api.ID][]api.Ver{}, writing: map[api.ID][]api.Item{}}
}

// open opens a vault anew; if that answers OK, the promises are looked at.
func (k *keeper) open() api.Errno {
	k.Helper()
	v, e := vault.Open(k.d)
	if e != api.OK {
		if v != nil {
			k.Fatal("beside an error", v)
		}
		return e
	}
	k.v = v
	if v.Inc() <= k.inc {
		k.Fatal("P18.3: the beginning", v.Inc(), "behind", k.inc)
	}
	k.inc = v.Inc()
	k.holds()
	return e
}

// holds looks at P18.2, for each key.
func (k *keeper) holds() {
	k.Helper()
	for key, l := range k.ok {
		x, there := k.v.Get(key)
		if !there {
			k.Fatalf("P18.2: of %x nothing is kept, though %v were", key, l)
		}
		for _, was := range l {
			if toldNewer(was.Ver, x.Ver) {
				k.Fatalf("P18.2: %v is kept, an older one than %v", x, was)
			}
		}
		for _, ver := range k.past[key] {
			if toldNewer(ver, x.Ver) {
				k.Fatalf("P18.2: %v is kept, an older one than %v, which wasn't new", x, ver)
			}
		}
	}
	for _, x := range k.v.All() {
		is := func(y api.Item) bool { return same(x, y) }
		if !slices.ContainsFunc(k.ok[x.Key], is) && !slices.ContainsFunc(k.writing[x.Key], is) {
			k.Fatalf("P18.2: %v is kept, which nobody gave", x)
		}
	}
}

func (k *keeper) put(key api.ID, value string, who api.ID) {
	k.Helper()
	was, _ := k.v.Get(key)
	x, e := k.v.Put(key, []byte(value), who)
	switch e {
	case api.OK:
		if !toldNewer(x.Ver, was.Ver) {
			k.Fatal("Put's", x, "isn't newer than", was)
		}
		k.ok[key] = append(k.ok[key], x)
	case api.ErrDown:
		k.writing[key] = append(k.writing[key], api.Item{Key: key, Ver: api.Ver{N: was.Ver.N + 1, Who: who}, Value: []byte(value)})
	}
	k.holds()
}

func (k *keeper) merge(x api.Item) {
	k.Helper()
	took, e := k.v.Merge(x)
	switch {
	case e == api.OK && took:
		k.ok[x.Key] = append(k.ok[x.Key], x)
	case e == api.OK:
		k.past[x.Key] = append(k.past[x.Key], x.Ver)
	case e == api.ErrDown:
		k.writing[x.Key] = append(k.writing[x.Key], x)
	}
	k.holds()
}

// deed is a call of a row.
type deed func(k *keeper)

func puts(key byte, value string, who byte) deed {
	return func(k *keeper) { k.put(small(key), value, small(who)) }
}

func merges(x api.Item) deed { return func(k *keeper) { k.merge(x) } }

func opens() deed { return func(k *keeper) { k.open() } }

// rows of calls: one key and several, values of one sector and of two, versions that are newer, older and alike.
func rows() [][]deed {
	return [][]deed{
		{puts(5, "a", 7)},
		{puts(5, "a", 7), puts(5, "b", 6), puts(5, value(64, 1), 1)},
		{puts(5, value(64, 1), 7), puts(6, value(64, 2), 7), puts(5, "c", 7)},
		{merges(item(5, 3, 7, "a")), merges(item(5, 2, 9, "b")), merges(item(5, 3, 8, "c")), puts(5, "d", 1)},
		{merges(item(5, 9, 7, value(64, 1))), puts(5, "", 1), merges(item(5, 9, 8, "x")), merges(item(6, 1, 1, ""))},
		{puts(5, "a", 7), opens(), puts(5, "b", 7), opens(), opens(), merges(item(5, 2, 8, "c")), puts(6, "d", 7)},
	}
}

// run does a row under power for so many writes from its first call on; then power is back.
func (k *keeper) run(row []deed, power int) {
	k.d.Power(power)
	for _, do := range row {
		do(k)
	}
	k.d.Power(-1)
}

// writesOf is how many writes a row takes.
func writesOf(t *testing.T, row []deed) int {
	k := keeping(t, disk.New(60))
	k.open()
	before := k.d.Done()
	k.run(row, -1)
	return k.d.Done() - before
}

// P18.2, P18.3: power fails at every write of a row of calls; then the vault is opened anew, while power fails at every write of that Open too, and at every write of the row once more.
func TestPowerFailsInRows(t *testing.T) {
	for _, row := range rows() {
		writes := writesOf(t, row)
		for first := range writes + 1 {
			for opening := range 4 {
				for second := range writes + 1 {
					k := keeping(t, disk.New(100))
					k.open()
					k.run(row, first)
					k.openUnder(opening)
					k.run(row, second)
					k.openUnder(opening)
				}
			}
		}
	}
}

// openUnder opens anew under power for so many writes, till it is opened; each time there is power for one more.
func (k *keeper) openUnder(power int) {
	k.Helper()
	for {
		k.d.Power(power)
		e := k.open()
		k.d.Power(-1)
		if e == api.OK {
			break
		}
		if e != api.ErrDown || power >= 2 {
			k.Fatal("Open under power for", power, "answers", e)
		}
		power++
	}
}

// P18.2: if power never fails all is kept, just the newest of each key.
func TestAllIsKept(t *testing.T) {
	for _, row := range rows() {
		k := keeping(t, disk.New(60))
		k.open()
		k.run(row, -1)
		before := k.v.All()
		if len(k.writing) > 0 || len(before) == 0 {
			t.Fatal("power failed")
		}
		for range 3 {
			k.open()
			if !slices.EqualFunc(k.v.All(), before, same) {
				t.Fatal("kept were", before, "now", k.v.All())
			}
		}
	}
}

// P18.2: what failed isn't kept, neither then nor later: what was kept ahead of it still is.
func TestFailedIsNotKept(t *testing.T) {
	for power := range 3 {
		d := disk.New(40)
		v, _ := vault.Open(d)
		kept, _ := v.Put(small(5), []byte("a"), small(7))
		d.Power(power)
		if _, e := v.Put(small(5), []byte(value(64, 0)), small(7)); e != api.ErrDown {
			t.Fatal(power, e)
		}
		d.Power(-1)
		for range 3 {
			if x, ok := v.Get(small(5)); !ok || !same(x, kept) {
				t.Fatal(power, x, ok)
			}
			v, _ = vault.Open(d)
		}
		next, e := v.Put(small(5), []byte("b"), small(1))
		if e != api.OK || next.Ver != (api.Ver{N: 2, Who: small(1)}) {
			t.Fatal(power, next, e)
		}
	}
}

// P18.2, P18.3: long stories of calls, openings and failures of power, on disks of several sizes, till they are full.
func TestStories(t *testing.T) {
	r := rand.New(rand.NewSource(183))
	for range 300 {
		k := keeping(t, disk.New(pick(r, []int{4, 10, 40, 200, 600})))
		k.open()
		for range 60 {
			x := drawnItem(r)
			switch r.Intn(8) {
			case 0, 1:
				k.open()
			case 2:
				k.d.Power(r.Intn(9))
			case 3:
				k.d.Power(-1)
			case 4, 5:
				k.merge(x)
			default:
				k.put(x.Key, string(x.Value), x.Ver.Who)
			}
		}
	}
}

// P18.3: power fails at every write of an Open, over and over; each that answers OK has a greater number than all ahead of it, those that failed among them.
func TestBeginningsRise(t *testing.T) {
	for first := range 3 {
		for second := range 3 {
			for third := range 3 {
				d := disk.New(60)
				last := int64(0)
				for range 4 {
					for _, power := range []int{first, second, third, -1} {
						d.Power(power)
						v, e := vault.Open(d)
						if (e == api.OK) != (power < 0 || power > 1) {
							t.Fatal(first, second, third, e)
						}
						if e == api.OK && v.Inc() != last+1 {
							t.Fatal(first, second, third, "the beginning", v.Inc(), "behind", last)
						}
						last = max(last, v.Inc())
					}
				}
			}
		}
	}
}

// P18.3: behind the last beginning there is none any more, and nothing is written.
func TestLastBeginning(t *testing.T) {
	d, _ := disk.Of([]byte(logText(20, beginningText(1<<20-3), itemText(small(5), 1, small(7), "a"))))
	for want := int64(1<<20 - 2); want <= 1<<20; want++ {
		v, e := vault.Open(d)
		if e != api.OK || v.Inc() != want {
			t.Fatal(v.Inc(), e, "wanted", want)
		}
		if x, e := v.Put(small(5), nil, small(7)); e != api.OK {
			t.Fatal(x, e)
		}
	}
	text, done := string(d.Bytes()), d.Done()
	for range 3 {
		if v, e := vault.Open(d); v != nil || e != api.ErrFull {
			t.Fatal(v, e)
		}
	}
	if string(d.Bytes()) != text || d.Done() != done {
		t.Fatal("Open has written")
	}
}

// P18.3: many beginnings, as many as a disk has room for.
func TestManyBeginnings(t *testing.T) {
	d := disk.New(300)
	for want := int64(1); want <= 298; want++ {
		if v, e := vault.Open(d); e != api.OK || v.Inc() != want {
			t.Fatal(v.Inc(), e, "wanted", want)
		}
	}
	if v, e := vault.Open(d); v != nil || e != api.ErrFull {
		t.Fatal(v, e)
	}
}
