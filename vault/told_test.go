package vault_test

import (
	"bytes"
	"encoding/binary"
	"math/big"
	"slices"
	"strings"
	"testing"

	"annulet/api"
	"annulet/disk"
	"annulet/vault"
)

// What the chapter says, and what the chapters that it leans on say, told a second time: a disk is one text, a log a number of its sectors, and a vault all items that stand in its log, of which each key's is looked for whenever it is asked for.

const (
	lastN  = 1<<62 - 1
	lastIn = 1 << 20
)

func small(n byte) api.ID { return api.ID{15: n} }

func noughts(sectors int) string { return strings.Repeat("\x00", 64*sectors) }

// filled lays noughts behind a text, up to a whole number of sectors.
func filled(text string) string {
	for len(text)%64 != 0 {
		text += "\x00"
	}
	return text
}

func headText(gen, used, count uint64) string {
	b := binary.BigEndian.AppendUint64(nil, gen)
	b = binary.BigEndian.AppendUint64(b, used)
	return filled(string(binary.BigEndian.AppendUint64(b, count)))
}

// recText is a record's sectors.
func recText(rec string) string {
	return filled(string([]byte{byte(len(rec) / 256), byte(len(rec) % 256)}) + rec)
}

// numText is a number's form.
func numText(n uint64) string {
	digits := strings.TrimLeft(string(binary.BigEndian.AppendUint64(nil, n)), "\x00")
	return string([]byte{byte(len(digits))}) + digits
}

func beginningText(n uint64) string { return "\x01\x01" + numText(n) }

// itemText is the record of an item, its version's number told apart, since it may be one that no item has.
func itemText(key api.ID, n uint64, who api.ID, value string) string {
	return "\x01\x02" + string(key[:]) + numText(n) + string(who[:]) + numText(uint64(len(value))) + value
}

func textOf(x api.Item) string {
	return itemText(x.Key, uint64(x.Ver.N), x.Ver.Who, string(x.Value))
}

// cutNum reads the number at the front of a text, in however many bytes it is told.
func cutNum(s string) (uint64, string, bool) {
	if s == "" || s[0] > 8 || len(s) < 1+int(s[0]) {
		return 0, "", false
	}
	n, rest := s[1:1+int(s[0])], s[1+int(s[0]):]
	return new(big.Int).SetBytes([]byte(n)).Uint64(), rest, true
}

func cutID(s string) (api.ID, string, bool) {
	if len(s) < 16 {
		return api.ID{}, "", false
	}
	return api.ID([]byte(s[:16])), s[16:], true
}

// toldBeginning is a beginning's number, if the record is one's: told again it is the same record.
func toldBeginning(rec string) (uint64, bool) {
	_, s, ok := cutNum(rec)
	if !ok {
		return 0, false
	}
	n, _, ok := cutNum(s)
	return n, ok && rec == beginningText(n)
}

// toldItem is an item, if the record is one's: told again it is the same record.
func toldItem(rec string) (api.Item, bool) {
	_, s, ok := cutNum(rec)
	if !ok {
		return api.Item{}, false
	}
	key, s, ok := cutID(s)
	if !ok {
		return api.Item{}, false
	}
	n, s, ok := cutNum(s)
	if !ok {
		return api.Item{}, false
	}
	who, s, ok := cutID(s)
	if !ok {
		return api.Item{}, false
	}
	_, value, ok := cutNum(s)
	if !ok || rec != itemText(key, n, who, value) {
		return api.Item{}, false
	}
	may := 1 <= n && n <= lastN && len(value) <= 64
	return api.Item{Key: key, Ver: api.Ver{N: int64(n), Who: who}, Value: []byte(value)}, may
}

func toldNewer(a, b api.Ver) bool {
	if a.N != b.N {
		return a.N > b.N
	}
	return new(big.Int).SetBytes(a.Who[:]).Cmp(new(big.Int).SetBytes(b.Who[:])) > 0
}

// paper is a disk.
type paper struct {
	text        string
	power, done int // below 0 power has no end
}

func (p *paper) write(sector int, text string) bool {
	if p.power == 0 {
		return false
	}
	p.power--
	p.done++
	p.text = p.text[:sector*64] + text + p.text[sector*64+64:]
	return true
}

// scroll is a log on a paper.
type scroll struct {
	p           *paper
	gen         uint64
	used, count int
	down        bool
}

func sayHead(sector string) (gen, used, count uint64) {
	n := func(i int) uint64 { return binary.BigEndian.Uint64([]byte(sector[i : i+8])) }
	if n(0) == 0 || strings.Trim(sector[24:], "\x00") != "" {
		return 0, 0, 0
	}
	return n(0), n(8), n(16)
}

// unroll is the log on a paper, and its records.
func unroll(p *paper) (*scroll, []string, api.Errno) {
	if p == nil || len(p.text) < 3*64 {
		return nil, nil, api.ErrArg
	}
	gen, used, count := sayHead(p.text[:64])
	if g, u, c := sayHead(p.text[64:128]); g > gen {
		gen, used, count = g, u, c
	}
	rest := p.text[128:]
	if gen>>63 == 1 || used > uint64(len(rest)/64) || count > used {
		return nil, nil, api.ErrForm
	}
	rest = rest[:used*64]
	var recs []string
	for rest != "" {
		n := 256*int(rest[0]) + int(rest[1])
		if n > 1024 || n+2 > len(rest) {
			return nil, nil, api.ErrForm
		}
		recs = append(recs, rest[2:2+n])
		rest = rest[len(recText(rest[2:2+n])):]
	}
	if uint64(len(recs)) != count {
		return nil, nil, api.ErrForm
	}
	return &scroll{p: p, gen: gen, used: int(used), count: int(count)}, recs, api.OK
}

func (s *scroll) add(rec string) api.Errno {
	body := recText(rec)
	if s.down {
		return api.ErrDown
	}
	if 2+s.used+len(body)/64 > len(s.p.text)/64 {
		return api.ErrFull
	}
	for i := 0; i < len(body); i += 64 {
		if !s.p.write(2+s.used+i/64, body[i:i+64]) {
			s.down = true
			return api.ErrDown
		}
	}
	head := headText(s.gen+1, uint64(s.used+len(body)/64), uint64(s.count+1))
	if !s.p.write(int((s.gen+1)&1), head) {
		s.down = true
		return api.ErrDown
	}
	s.gen, s.used, s.count = s.gen+1, s.used+len(body)/64, s.count+1
	return api.OK
}

// safe is a vault.
type safe struct {
	log   *scroll
	inc   uint64
	items []api.Item // all that stand in its log, in order
}

// toldRecords is what records say, and whether each of them may be.
func toldRecords(recs []string) (last uint64, items []api.Item, ok bool) {
	for _, rec := range recs {
		n, begins := toldBeginning(rec)
		x, isItem := toldItem(rec)
		switch {
		case begins && n > last && n <= lastIn:
			last = n
		case isItem:
			items = append(items, x)
		default:
			return 0, nil, false
		}
	}
	return last, items, true
}

func toldOpen(p *paper) (*safe, api.Errno) {
	log, recs, e := unroll(p)
	if e != api.OK {
		return nil, e
	}
	last, items, ok := toldRecords(recs)
	if !ok {
		return nil, api.ErrForm
	}
	if last == lastIn {
		return nil, api.ErrFull
	}
	if e := log.add(beginningText(last + 1)); e != api.OK {
		return nil, e
	}
	return &safe{log: log, inc: last + 1, items: items}, api.OK
}

// get is the first of a key's items than which none is newer.
func (s *safe) get(key api.ID) (api.Item, bool) {
	if s == nil {
		return api.Item{}, false
	}
	at := -1
	for i, x := range s.items {
		if x.Key == key && (at < 0 || toldNewer(x.Ver, s.items[at].Ver)) {
			at = i
		}
	}
	if at < 0 {
		return api.Item{}, false
	}
	return s.items[at], true
}

func (s *safe) put(key api.ID, value string, who api.ID) (api.Item, api.Errno) {
	if s == nil {
		return api.Item{}, api.ErrArg
	}
	if len(value) > 64 {
		return api.Item{}, api.ErrLong
	}
	was, _ := s.get(key)
	if was.Ver.N == lastN {
		return api.Item{}, api.ErrFull
	}
	x := api.Item{Key: key, Ver: api.Ver{N: was.Ver.N + 1, Who: who}, Value: []byte(value)}
	if e := s.log.add(textOf(x)); e != api.OK {
		return api.Item{}, e
	}
	s.items = append(s.items, x)
	return x, api.OK
}

func (s *safe) merge(x api.Item) (bool, api.Errno) {
	if s == nil || x.Ver.N <= 0 || x.Ver.N > lastN {
		return false, api.ErrArg
	}
	if len(x.Value) > 64 {
		return false, api.ErrLong
	}
	if was, there := s.get(x.Key); there && !toldNewer(x.Ver, was.Ver) {
		return false, api.OK
	}
	if e := s.log.add(textOf(x)); e != api.OK {
		return false, e
	}
	x.Value = slices.Clone(x.Value)
	s.items = append(s.items, x)
	return true, api.OK
}

func (s *safe) all() []api.Item {
	if s == nil {
		return nil
	}
	var keys []api.ID
	for _, x := range s.items {
		keys = append(keys, x.Key)
	}
	slices.SortFunc(keys, func(a, b api.ID) int { return bytes.Compare(a[:], b[:]) })
	var l []api.Item
	for _, key := range slices.Compact(keys) {
		x, _ := s.get(key)
		l = append(l, x)
	}
	return l
}

func same(a, b api.Item) bool {
	return a.Key == b.Key && a.Ver == b.Ver && bytes.Equal(a.Value, b.Value)
}

// bench holds a disk and the vault on it against what is told of them.
type bench struct {
	*testing.T
	d *disk.Disk
	v *vault.Vault
	p *paper
	s *safe
}

// on is a bench with a disk of these bytes, on which no vault is opened yet.
func on(t *testing.T, text string) *bench {
	t.Helper()
	d, e := disk.Of([]byte(text))
	if e != api.OK {
		t.Fatal("no disk of", len(text), "bytes:", e)
	}
	return &bench{T: t, d: d, p: &paper{text: text, power: -1}}
}

// logText is a disk of so many sectors with a log of these records.
func logText(sectors int, recs ...string) string {
	body := ""
	for _, rec := range recs {
		body += recText(rec)
	}
	text := headText(2, uint64(len(body)/64), uint64(len(recs))) + noughts(1) + body
	return text + noughts(sectors)[len(text):]
}

// power gives both power for so many writes.
func (b *bench) power(n int) {
	b.d.Power(n)
	b.p.power = n
}

func (b *bench) open() api.Errno {
	b.Helper()
	v, e := vault.Open(b.d)
	s, want := toldOpen(b.p)
	if e != want || (v == nil) != (e != api.OK) {
		b.Fatal("Open answers", v, e, "wanted", want)
	}
	b.v, b.s = v, s
	b.stands()
	return e
}

func (b *bench) put(key api.ID, value string, who api.ID) api.Errno {
	b.Helper()
	x, e := b.v.Put(key, []byte(value), who)
	want, wrong := b.s.put(key, value, who)
	if e != wrong || !same(x, want) {
		b.Fatalf("Put(%x, %q, %x) answers %v, %v, wanted %v, %v", key, value, who, x, e, want, wrong)
	}
	b.stands()
	return e
}

func (b *bench) merge(x api.Item) (bool, api.Errno) {
	b.Helper()
	ok, e := b.v.Merge(x)
	want, wrong := b.s.merge(x)
	if ok != want || e != wrong {
		b.Fatalf("Merge(%v) answers %v, %v, wanted %v, %v", x, ok, e, want, wrong)
	}
	b.stands()
	return ok, e
}

func (b *bench) get(key api.ID) {
	b.Helper()
	x, ok := b.v.Get(key)
	want, there := b.s.get(key)
	if ok != there || !same(x, want) || !ok && x.Value != nil {
		b.Fatalf("Get(%x) answers %v, %v, wanted %v, %v", key, x, ok, want, there)
	}
}

// stands holds all that can be asked.
func (b *bench) stands() {
	b.Helper()
	if string(b.d.Bytes()) != b.p.text || b.d.Done() != b.p.done {
		b.Fatalf("on the disk %x behind %d writes, wanted %x behind %d", b.d.Bytes(), b.d.Done(), b.p.text, b.p.done)
	}
	inc, down := uint64(0), false
	if b.s != nil {
		inc, down = b.s.inc, b.s.log.down
	}
	if b.v.Inc() != int64(inc) || b.v.Down() != down {
		b.Fatal("Inc, Down", b.v.Inc(), b.v.Down(), "wanted", inc, down)
	}
	all := b.s.all()
	if got := b.v.All(); !slices.EqualFunc(got, all, same) {
		b.Fatal("All", got, "wanted", all)
	}
	for _, x := range all {
		b.get(x.Key)
		b.get(api.ID{14: 77, 15: x.Key[15]})
	}
}
