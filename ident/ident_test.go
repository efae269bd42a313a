package ident_test

import (
	"math/big"
	"math/rand"
	"slices"
	"strings"
	"testing"

	"annulet/api"
	"annulet/ident"
)

// The oracle is math/big: numbers as the chapter speaks of them, with no bytes in sight.

func whole() *big.Int { return new(big.Int).Lsh(big.NewInt(1), 128) }

func number(a api.ID) *big.Int { return new(big.Int).SetBytes(a[:]) }

func identity(n *big.Int) api.ID {
	var a api.ID
	new(big.Int).Mod(n, whole()).FillBytes(a[:])
	return a
}

func small(n int64) api.ID { return identity(big.NewInt(n)) }

// power is 2^n + more.
func power(n uint, more int64) api.ID {
	p := new(big.Int).Lsh(big.NewInt(1), n)
	return identity(p.Add(p, big.NewInt(more)))
}

func subOf(a, b api.ID) *big.Int {
	n := new(big.Int).Sub(number(a), number(b))
	return n.Mod(n, whole())
}

func farOf(a, b api.ID) *big.Int {
	there, back := subOf(a, b), subOf(b, a)
	if there.Cmp(back) < 0 {
		return there
	}
	return back
}

func nearerOf(d, a, b api.ID) bool {
	if c := farOf(a, d).Cmp(farOf(b, d)); c != 0 {
		return c < 0
	}
	return subOf(a, d).Cmp(subOf(b, d)) < 0
}

func nearestOf(d api.ID, l []api.ID) int {
	for i, x := range l {
		if !slices.ContainsFunc(l, func(y api.ID) bool { return nearerOf(d, y, x) }) {
			return i
		}
	}
	return -1
}

func betweenOf(a, x, b api.ID) bool {
	if a == b {
		return x != a
	}
	return x != a && subOf(x, a).Cmp(subOf(b, a)) < 0
}

// edges are numbers at which a byte, a word or the ring turns over, and some that are just as far from others of them.
func edges() []api.ID {
	l := []api.ID{small(0), small(-1), small(-2), small(1), small(2), small(3), small(4), small(5), small(9), small(255)}
	for _, n := range []uint{8, 16, 63, 64, 120, 127} {
		l = append(l, power(n, -1), power(n, 0), power(n, 1))
	}
	return l
}

func randomID(r *rand.Rand) api.ID {
	var a api.ID
	for i := range a {
		a[i] = byte(r.Intn(256))
		if r.Intn(4) == 0 { // many equal bytes, so that borrows go far
			a[i] = byte(255 * r.Intn(2))
		}
	}
	return a
}

// triples goes over all triples of the edges, and some that are drawn the same way in each run.
func triples(each func(a, b, c api.ID)) {
	l := edges()
	for _, a := range l {
		for _, b := range l {
			for _, c := range l {
				each(a, b, c)
			}
		}
	}
	r := rand.New(rand.NewSource(1))
	for range 2000 {
		each(randomID(r), randomID(r), randomID(r))
	}
}

// P1.1: Compare, Sub, Far, Nearer and Between, held against the chapter's words.
func TestCallsAnswerAsSaid(t *testing.T) {
	triples(func(a, b, c api.ID) {
		if got, want := ident.Compare(a, b), number(a).Cmp(number(b)); got != want {
			t.Fatalf("Compare(%x, %x) = %d, want %d", a, b, got, want)
		}
		if got, want := ident.Sub(a, b), identity(subOf(a, b)); got != want {
			t.Fatalf("Sub(%x, %x) = %x, want %x", a, b, got, want)
		}
		if got, want := ident.Far(a, b), identity(farOf(a, b)); got != want {
			t.Fatalf("Far(%x, %x) = %x, want %x", a, b, got, want)
		}
		if got, want := ident.Nearer(a, b, c), nearerOf(a, b, c); got != want {
			t.Fatalf("Nearer(%x, %x, %x) = %v, want %v", a, b, c, got, want)
		}
		if got, want := ident.Between(a, b, c), betweenOf(a, b, c); got != want {
			t.Fatalf("Between(%x, %x, %x) = %v, want %v", a, b, c, got, want)
		}
		if got, want := ident.Nearest(a, b, c, b), nearestOf(a, []api.ID{b, c, b}); got != want {
			t.Fatalf("Nearest(%x, %x, %x, ..) = %d, want %d", a, b, c, got, want)
		}
	})
}

// P1.1: the chapter's own examples.
func TestExamples(t *testing.T) {
	if got := ident.Sub(small(3), small(5)); got != small(-2) {
		t.Errorf("Sub(3, 5) = %x", got)
	}
	if got := ident.Far(small(3), small(5)); got != small(2) {
		t.Errorf("Far(3, 5) = %x", got)
	}
	if !ident.Nearer(small(4), small(5), small(3)) {
		t.Error("Nearer(4, 5, 3) is false")
	}
	if got := ident.Nearest(small(4), small(3), small(5)); got != 1 {
		t.Errorf("Nearest(4, 3, 5) = %d", got)
	}
	if !ident.Between(small(9), small(1), small(3)) {
		t.Error("Between(9, 1, 3) is false")
	}
	if ident.Between(small(3), small(3), small(3)) {
		t.Error("Between(3, 3, 3) is true")
	}
	if _, e := ident.Parse("zz"); e != api.ErrForm {
		t.Errorf("Parse(zz): %v", e)
	}
	if _, e := ident.Parse("00"); e != api.ErrShort {
		t.Errorf("Parse(00): %v", e)
	}
}

// P1.1: 0 and 2^128 - 1 stand side by side, and what lies straight across is as far both ways.
func TestWhereTheRingCloses(t *testing.T) {
	zero, most, across := small(0), small(-1), power(127, 0)
	if ident.Sub(zero, most) != small(1) || ident.Sub(most, zero) != most || ident.Far(zero, most) != small(1) {
		t.Error("0 and 2^128 - 1 are not side by side")
	}
	if ident.Compare(zero, most) != -1 || ident.Compare(most, zero) != 1 || ident.Compare(most, most) != 0 {
		t.Error("0 is not less than 2^128 - 1")
	}
	if ident.Far(zero, across) != across || ident.Far(across, zero) != across {
		t.Error("2^127 is not as far as can be from 0")
	}
	if ident.Far(zero, power(127, 1)) != power(127, -1) {
		t.Error("2^127 + 1 is not told by the shorter way")
	}
	if !ident.Nearer(zero, small(1), most) || ident.Nearer(zero, most, small(1)) {
		t.Error("of 1 and 2^128 - 1, as far from 0, the first stands clockwise behind it")
	}
	if !ident.Between(most, zero, small(1)) || ident.Between(most, most, small(1)) || ident.Between(most, small(1), small(1)) {
		t.Error("between 2^128 - 1 and 1 stands 0 alone")
	}
	for _, x := range edges() {
		if ident.Between(most, x, most) != (x != most) {
			t.Errorf("all the way round from 2^128 - 1: %x", x)
		}
	}
}

// P1.1: Nearest tells a place, of equal ones the first.
func TestNearest(t *testing.T) {
	r := rand.New(rand.NewSource(2))
	l := edges()
	for range 2000 {
		var some []api.ID
		for range r.Intn(8) {
			some = append(some, l[r.Intn(len(l))])
		}
		d := l[r.Intn(len(l))]
		if got, want := ident.Nearest(d, some...), nearestOf(d, some); got != want {
			t.Fatalf("Nearest(%x, %x) = %d, want %d", d, some, got, want)
		}
	}
	if ident.Nearest(small(7)) != -1 || ident.Nearest(small(7), nil...) != -1 || ident.Nearest(small(7), []api.ID{}...) != -1 {
		t.Error("Nearest of none is not -1")
	}
	if got := ident.Nearest(small(4), small(9), small(5), small(3), small(5)); got != 1 {
		t.Errorf("of two equal ones the first: %d", got)
	}
	if got := ident.Nearest(small(4), small(9), small(3), small(3)); got != 1 {
		t.Errorf("of two equal ones the first: %d", got)
	}
}

// R3: what Nearest is handed is left as it is, spare room too.
func TestNearestLeavesItsList(t *testing.T) {
	room := edges()
	before := slices.Clone(room)
	ident.Nearest(small(6), room[:3]...)
	if !slices.Equal(room, before) {
		t.Error("the list was changed")
	}
}

// P1.2: of two unlike identities just one is nearer to any d; none is nearer than itself.
func TestJustOneIsNearer(t *testing.T) {
	triples(func(d, a, b api.ID) {
		one, other := ident.Nearer(d, a, b), ident.Nearer(d, b, a)
		if a == b && (one || other) {
			t.Fatalf("%x is nearer to %x than itself", a, d)
		}
		if a != b && one == other {
			t.Fatalf("of %x and %x, to %x: %v and %v", a, b, d, one, other)
		}
		if a != d && !ident.Nearer(d, d, a) {
			t.Fatalf("%x is not nearer to itself than %x", d, a)
		}
	})
}

// P1.2: Nearer is transitive.
func TestNearerIsTransitive(t *testing.T) {
	for _, d := range edges() {
		triples(func(a, b, c api.ID) {
			if ident.Nearer(d, a, b) && ident.Nearer(d, b, c) && !ident.Nearer(d, a, c) {
				t.Fatalf("to %x: %x, %x, %x", d, a, b, c)
			}
		})
	}
}

// P1.3: Parse(Print(a)) is a; and P1.1: Print tells 32 digits, the highest first.
func TestPrintThenParse(t *testing.T) {
	check := func(a api.ID) {
		t.Helper()
		digits := number(a).Text(16)
		want := strings.Repeat("0", 32-len(digits)) + digits
		if got := ident.Print(a); got != want {
			t.Fatalf("Print(%x) = %q, want %q", a, got, want)
		}
		if got, e := ident.Parse(want); got != a || e != api.OK {
			t.Fatalf("Parse(%q) = %x, %v", want, got, e)
		}
	}
	triples(func(a, _, _ api.ID) { check(a) })
	for at := range api.Size {
		for x := range 256 {
			var a api.ID
			a[at] = byte(x)
			check(a)
		}
	}
}

// parseOf reads byte by byte, as the chapter says it.
func parseOf(s string) (api.ID, api.Errno) {
	for i := range len(s) {
		if !strings.Contains("0123456789abcdef", s[i:i+1]) {
			return api.ID{}, api.ErrForm
		}
		if i == 32 {
			return api.ID{}, api.ErrLong
		}
	}
	if len(s) < 32 {
		return api.ID{}, api.ErrShort
	}
	n, _ := new(big.Int).SetString(s, 16)
	return identity(n), api.OK
}

func checkParse(t *testing.T, s string) {
	t.Helper()
	got, e := ident.Parse(s)
	if want, wantE := parseOf(s); got != want || e != wantE {
		t.Fatalf("Parse(%q) = %x, %v, want %x, %v", s, got, e, want, wantE)
	}
	if e == api.OK && ident.Print(got) != s {
		t.Fatalf("Print tells %q of what Parse read from %q", ident.Print(got), s)
	}
}

// P1.1: 31, 32 and 33 digits, and what goes wrong first.
func TestParseCountsDigits(t *testing.T) {
	nines := strings.Repeat("9", 40)
	for n := range 40 {
		want := api.OK
		if n < 32 {
			want = api.ErrShort
		} else if n > 32 {
			want = api.ErrLong
		}
		if _, e := ident.Parse(nines[:n]); e != want {
			t.Errorf("%d digits: %v", n, e)
		}
		checkParse(t, nines[:n])
	}
	for s, want := range map[string]api.Errno{
		nines[:31] + "g":  api.ErrForm,
		nines[:32] + "g":  api.ErrForm,
		nines[:33] + "g":  api.ErrLong,
		nines[:32] + "é":  api.ErrForm,
		nines[:30] + "é":  api.ErrForm,
		nines[:31] + "é9": api.ErrForm,
	} {
		if got, e := ident.Parse(s); e != want || got != (api.ID{}) {
			t.Errorf("Parse(%q) = %x, %v, want %v", s, got, e, want)
		}
	}
}

// P1.1 and P1.3: each byte at each place of a text, in place of a digit and ahead of one.
func TestParseAnyByteAnywhere(t *testing.T) {
	text := "0123456789abcdeffedcba98765432100f"
	for n := 30; n <= len(text); n++ {
		for at := range n {
			for x := range 256 {
				sign := string([]byte{byte(x)})
				checkParse(t, text[:at]+sign+text[at+1:n])
				checkParse(t, text[:at]+sign+text[at:n])
			}
		}
	}
}

// P1.1: signs that are no digits at any place: of more than one byte (some of which end in a digit's number, or are digits of another script), and bytes that are no text.
func TestParseWrongSigns(t *testing.T) {
	signs := []string{"\u0130", "\u0161", "\u0661", "\uff10", "\uff41", "\U0001d7d8", "\U00010030", "\ufffd", "é", "\u0301", "\xff", "\x80", "\xc3", "\xed\xa0\x80", "\xf4\x90\x80\x80", "\xc0\xb0", "\x00"}
	digits := strings.Repeat("a", 40)
	for _, sign := range signs {
		for at := range 40 {
			want := api.ErrForm
			if at > 32 {
				want = api.ErrLong
			}
			for _, s := range []string{digits[:at] + sign, digits[:at] + sign + digits[at:]} {
				if got, e := ident.Parse(s); e != want || got != (api.ID{}) {
					t.Errorf("Parse(%q) = %x, %v, want %v", s, got, e, want)
				}
			}
		}
	}
}

// P1.1 and P1.3: texts of about 32 digits, every other one with a byte of any kind in it.
func TestParseDrawnTexts(t *testing.T) {
	r := rand.New(rand.NewSource(3))
	for range 20000 {
		n := 28 + r.Intn(8)
		s := make([]byte, n)
		for i := range s {
			s[i] = "0123456789abcdef"[r.Intn(16)]
		}
		if r.Intn(2) == 0 {
			s[r.Intn(n)] = byte(r.Intn(256))
		}
		checkParse(t, string(s))
	}
}

// add goes on clockwise from a by n.
func add(a, n api.ID) api.ID { return identity(new(big.Int).Add(number(a), number(n))) }

// P1.4: Sub(a, b) and Sub(b, c) make Sub(a, c); from a on by Sub(b, a) is b.
func TestAround(t *testing.T) {
	triples(func(a, b, c api.ID) {
		if add(ident.Sub(a, b), ident.Sub(b, c)) != ident.Sub(a, c) {
			t.Fatalf("Sub(%x, %x), Sub(%x, %x)", a, b, b, c)
		}
		if add(a, ident.Sub(b, a)) != b {
			t.Fatalf("from %x on by Sub(%x, %x)", a, b, a)
		}
	})
}
