package label_test

import (
	"math/big"
	"math/rand"
	"regexp"
	"slices"
	"strings"
	"testing"
	"unicode/utf8"

	"annulet/api"
	"annulet/ident"
	"annulet/label"
)

// What the chapter says of labels, told a second time: parts of a text by utf8's decoder, what may stand there by a pattern, sums and products by math/big.

// parts are a text's runes as pieces of it; a byte that is no UTF-8 is a piece too.
func parts(s string) []string {
	var l []string
	for len(s) > 0 {
		_, n := utf8.DecodeRuneInString(s)
		l = append(l, s[:n])
		s = s[n:]
	}
	return l
}

var mayStand = regexp.MustCompile(`^[-0-9A-Za-z\x{A1}-\x{FFFC}\x{FFFE}-\x{10FFFF}]$`)

func runesOf(s string) ([]int32, api.Errno) {
	if s == "" {
		return nil, api.ErrShort
	}
	var l []int32
	for i, p := range parts(s) {
		if !mayStand.MatchString(p) {
			return nil, api.ErrForm
		}
		if i == 24 {
			return nil, api.ErrLong
		}
		if len(p) == 1 {
			p = strings.ToLower(p)
		}
		r, _ := utf8.DecodeRuneInString(p)
		l = append(l, r)
	}
	return l, api.OK
}

func foldOf(s string) (string, api.Errno) {
	l, e := runesOf(s)
	var b strings.Builder
	for _, r := range l {
		b.WriteRune(r)
	}
	return b.String(), e
}

func cutOf(s string, n int) (string, string) {
	l := parts(s)
	n = min(max(n, 0), len(l))
	return strings.Join(l[:n], ""), strings.Join(l[n:], "")
}

func idOf(s string) (api.ID, api.Errno) {
	l, e := runesOf(s)
	var a api.ID
	if e != api.OK {
		return a, e
	}
	p, _ := new(big.Int).SetString("9E3779B97F4A7C15", 16)
	q, _ := new(big.Int).SetString("C2B2AE3D27D4EB4F", 16)
	whole := new(big.Int).Lsh(big.NewInt(1), 64)
	x, y := new(big.Int).Set(p), new(big.Int).Set(q)
	for _, r := range l {
		x.Xor(x, big.NewInt(int64(r)))
		x.Mod(x.Mul(x, q), whole)
		y.Add(y, x)
		y.Mod(y.Mul(y, p), whole)
		x.Xor(x, new(big.Int).Rsh(y, 29))
	}
	x.FillBytes(a[:8])
	y.FillBytes(a[8:])
	return a, api.OK
}

// good are runes that may stand in a label: the edges of what the chapter names, of each length in bytes.
func good() []string {
	return []string{"a", "z", "A", "Z", "m", "M", "0", "9", "-", "\u00A1", "Ä", "ä", "ß", "\u07FF", "\u0800", "日", "İ", "\u2028", "\uFEFF", "\uD7FF", "\uE000", "\uFFFC", "\uFFFE", "\uFFFF", "\U00010000", "😀", "\U0010FFFF"}
}

// wrongRunes may stand in no label: each beside an edge, and U+FFFD itself.
func wrongRunes() []string {
	return []string{"\x00", "\t", "\n", " ", "!", ",", ".", "/", ":", "@", "[", "_", "`", "{", "~", "\x7f", "\u0080", "\u009F", "\u00A0", "\uFFFD"}
}

// wrongBytes are no UTF-8: alone, cut short, too long for their rune, halves of pairs, beyond the last rune.
func wrongBytes() []string {
	return []string{"\x80", "\xbf", "\xc0", "\xc1\x81", "\xc2", "\xe6\x97", "\xe0\x80\xa1", "\xed\xa0\x80", "\xed\xbf\xbf", "\xf0\x9f\x98", "\xf4\x90\x80\x80", "\xf5", "\xfe", "\xff"}
}

// texts are ordinary labels, edges and wrong ones, and the wrong things at each place of short and long texts.
func texts() []string {
	l := []string{"", "Anna-7", "Ärger", "a b", "über", "ANNA", "anna", "日本", "0", "-", "--", "I", "İ", "K"}
	for _, g := range good() {
		for _, n := range []int{1, 2, 23, 24, 25, 26, 60} {
			l = append(l, strings.Repeat(g, n))
		}
	}
	for _, w := range slices.Concat(wrongRunes(), wrongBytes()) {
		for _, n := range []int{0, 1, 2, 3, 22, 23, 24, 25, 30} {
			for i := range n + 1 {
				l = append(l, strings.Repeat("b", i)+w+strings.Repeat("Q", n-i), strings.Repeat("日", i)+w+strings.Repeat("ä", n-i))
			}
		}
	}
	return append(l, mixed(2000)...)
}

// mixed are texts of all sorts of pieces, the same ones in every run.
func mixed(n int) []string {
	r := rand.New(rand.NewSource(2))
	fit, wrong := good(), slices.Concat(wrongRunes(), wrongBytes())
	var l []string
	for range n {
		s := ""
		for range r.Intn(28) {
			if r.Intn(25) == 0 {
				s += wrong[r.Intn(len(wrong))]
			} else {
				s += fit[r.Intn(len(fit))]
			}
		}
		l = append(l, s)
	}
	return l
}

// P2.1: Runes, at each rune that there is.
func TestRunesAtEachRune(t *testing.T) {
	for r := rune(0); r <= utf8.MaxRune; r++ {
		want, e := r, api.OK
		switch {
		case r >= 'A' && r <= 'Z':
			want = r + 32
		case r >= 'a' && r <= 'z', r >= '0' && r <= '9', r == '-':
		case r < 0xA1, r == 0xFFFD, r >= 0xD800 && r <= 0xDFFF:
			e = api.ErrForm
		}
		got, f := label.Runes(string(r))
		if f != e || e != api.OK && len(got) != 0 || e == api.OK && (len(got) != 1 || got[0] != want) {
			t.Fatalf("Runes(%U): %v, %v, not %v, %v", r, got, f, want, e)
		}
	}
}

// P2.1: Runes, at each byte that stands alone.
func TestRunesAtEachByte(t *testing.T) {
	for b := 0x80; b <= 0xFF; b++ {
		s := string([]byte{byte(b)})
		for _, u := range []string{s, "a" + s, s + "a", "ä" + s + "ä"} {
			if l, e := label.Runes(u); e != api.ErrForm || len(l) != 0 {
				t.Errorf("Runes(%q): %v, %v, not ErrForm", u, l, e)
			}
		}
	}
}

// P2.1: Runes, its errors and the order in which they are met.
func TestRunesErrors(t *testing.T) {
	a24 := strings.Repeat("a", 24)
	for _, c := range []struct {
		s string
		e api.Errno
	}{
		{"", api.ErrShort},
		{" ", api.ErrForm},
		{"a b", api.ErrForm},
		{"a", api.OK},
		{a24, api.OK},
		{a24 + "a", api.ErrLong},
		{a24 + "ä", api.ErrLong},
		{a24 + " ", api.ErrForm},
		{a24 + "\uFFFD", api.ErrForm},
		{a24 + "\xff", api.ErrForm},
		{a24 + "a ", api.ErrLong},
		{a24 + "a\xff", api.ErrLong},
		{a24[1:] + " ", api.ErrForm},
		{a24[1:] + " aa", api.ErrForm},
		{" " + a24 + a24, api.ErrForm},
		{strings.Repeat("😀", 24), api.OK},
		{strings.Repeat("😀", 25), api.ErrLong},
		{strings.Repeat("a", 1<<20), api.ErrLong},
	} {
		if l, e := label.Runes(c.s); e != c.e || (e == api.OK) != (len(l) > 0) {
			t.Errorf("Runes(%q): %v, %v, not %v", c.s, l, e, c.e)
		}
	}
}

// P2.1: Runes and Fold, at all texts, held against what the chapter says.
func TestRunesAndFold(t *testing.T) {
	for _, s := range texts() {
		want, e := runesOf(s)
		if l, f := label.Runes(s); f != e || !slices.Equal(l, want) {
			t.Errorf("Runes(%q): %v, %v, not %v, %v", s, l, f, want, e)
		}
		wantText, e := foldOf(s)
		if u, f := label.Fold(s); f != e || u != wantText {
			t.Errorf("Fold(%q): %q, %v, not %q, %v", s, u, f, wantText, e)
		}
	}
}

// P2.1: the chapter's examples.
func TestExamples(t *testing.T) {
	if s, e := label.Fold("Anna-7"); s != "anna-7" || e != api.OK {
		t.Errorf("Fold(Anna-7): %q, %v", s, e)
	}
	if s, e := label.Fold("Ärger"); s != "Ärger" || e != api.OK {
		t.Errorf("Fold(Ärger): %q, %v", s, e)
	}
	if l, e := label.Runes("a b"); len(l) != 0 || e != api.ErrForm {
		t.Errorf("Runes(a b): %v, %v", l, e)
	}
	if a, b := label.Cut("über", 1); a != "ü" || b != "ber" {
		t.Errorf("Cut(über, 1): %q, %q", a, b)
	}
}

// P2.1: Same, each pair of short texts and of long ones, both ways.
func TestSame(t *testing.T) {
	a24 := strings.Repeat("a", 24)
	l := append(good(), "", " ", "\xff", "\xfe", "\uFFFD", "a b", "A B", "k", "K", "\u212A", "ſ", "s", "i", "ı", "e\u0301", "é", "É", "anna", "ANNA", "aNNa", "annb", "ann", a24, strings.ToUpper(a24), a24+"a", a24+"A", a24+" ", a24[1:])
	for _, a := range l {
		for _, b := range l {
			foldA, errA := foldOf(a)
			foldB, errB := foldOf(b)
			want := errA == api.OK && errB == api.OK && foldA == foldB
			if label.Same(a, b) != want {
				t.Errorf("Same(%q, %q) is not %v", a, b, want)
			}
		}
	}
}

// counts are numbers of runes around the length of a text, and the farthest ones.
func counts(s string) []int {
	n := utf8.RuneCountInString(s)
	return []int{-1 << 63, -2, -1, 0, 1, 2, 3, n - 1, n, n + 1, len(s), len(s) + 1, 24, 25, 1<<63 - 1}
}

// P2.1, P2.3: Cut, at texts that are labels and such as are none.
func TestCut(t *testing.T) {
	for _, s := range texts() {
		for _, n := range counts(s) {
			a, b := label.Cut(s, n)
			if x, y := cutOf(s, n); a != x || b != y {
				t.Errorf("Cut(%q, %d): %q, %q, not %q, %q", s, n, a, b, x, y)
			}
			if a+b != s || utf8.RuneCountInString(a) > max(n, 0) {
				t.Errorf("Cut(%q, %d): %q, %q", s, n, a, b)
			}
		}
	}
}

// P2.1: Cut, written out.
func TestCutWrittenOut(t *testing.T) {
	for _, c := range []struct {
		s    string
		n    int
		a, b string
	}{
		{"", -1, "", ""},
		{"", 0, "", ""},
		{"", 1, "", ""},
		{"ab", -1, "", "ab"},
		{"ab", 0, "", "ab"},
		{"ab", 1, "a", "b"},
		{"ab", 2, "ab", ""},
		{"ab", 3, "ab", ""},
		{"\xffä", 1, "\xff", "ä"},
		{"a\xe6\x97b", 2, "a\xe6", "\x97b"},
		{"a\xe6\x97b", 3, "a\xe6\x97", "b"},
		{"\uFFFD\xff\uFFFD", 1, "\uFFFD", "\xff\uFFFD"},
		{"\uFFFD\xff\uFFFD", 2, "\uFFFD\xff", "\uFFFD"},
		{"日本 日本", 3, "日本 ", "日本"},
	} {
		if a, b := label.Cut(c.s, c.n); a != c.a || b != c.b {
			t.Errorf("Cut(%q, %d): %q, %q, not %q, %q", c.s, c.n, a, b, c.a, c.b)
		}
	}
}

// P2.1: ID, worked out apart from this program.
func TestIDWrittenOut(t *testing.T) {
	for _, c := range []struct{ s, id string }{
		{"a", "35dc1a6158b93a35279e7b3f29bb1137"},
		{"A", "35dc1a6158b93a35279e7b3f29bb1137"},
		{"z", "685eb32c43f85df15bdb42d61c5539d0"},
		{"Z", "685eb32c43f85df15bdb42d61c5539d0"},
		{"0", "20b855821e55748c60f8665cefa52c42"},
		{"-", "93fb440fdddd0fdc9a77d65288f4f863"},
		{"\u00A1", "e287a9ae0e5280bd8afae6e63b9f6ff7"},
		{"\U0010FFFF", "bace93f4397de0e74fd66c7a3f627ce9"},
		{"ANNA", "1edbe4d598abac0bb9e6a7fdc0aa466d"},
		{"Anna-7", "563a06519dab381b8c48b9e7f3446923"},
		{"Ärger", "b17d6a52d2863703c7b0e61629a62f04"},
		{"ärger", "d0da66eb4c73979c01a15e08f1637f96"},
		{"ab", "e08d3a784a380b69d61f5ad608c05c50"},
		{"ba", "4a83220add7ee7a5d2e0f3b097eb977d"},
		{strings.Repeat("a", 24), "bf4f441e1c33bc190e7c071002f6fbbb"},
		{strings.Repeat("日本", 12), "b6102349a132882aeb5755094cd02128"},
		{strings.Repeat("😀", 24), "8a40dc1281718afedfff38ca1ad5d973"},
	} {
		if a, e := label.ID(c.s); e != api.OK || ident.Print(a) != c.id {
			t.Errorf("ID(%q): %s, %v, not %s", c.s, ident.Print(a), e, c.id)
		}
	}
}

// P2.1: ID, at all texts, held against whole numbers.
func TestID(t *testing.T) {
	for _, s := range texts() {
		want, e := idOf(s)
		if a, f := label.ID(s); a != want || f != e {
			t.Errorf("ID(%q): %x, %v, not %x, %v", s, a, f, want, e)
		}
	}
}

// P2.2: what is folded stays as it is, and means the same.
func TestFoldAgain(t *testing.T) {
	for _, s := range texts() {
		once, e := label.Fold(s)
		if e != api.OK {
			continue
		}
		if twice, f := label.Fold(once); twice != once || f != api.OK {
			t.Errorf("Fold(Fold(%q)): %q, %v, not %q", s, twice, f, once)
		}
		if !label.Same(s, once) {
			t.Errorf("Same(%q, %q) is false", s, once)
		}
		a, e := label.ID(s)
		if b, f := label.ID(once); a != b || e != api.OK || f != api.OK {
			t.Errorf("ID(%q): %x, %v; of its fold: %x, %v", s, a, e, b, f)
		}
	}
}

// R3: each answer is memory of its own.
func TestRunesAreNew(t *testing.T) {
	s := strings.Repeat("Ab", 12)
	first, _ := label.Runes(s)
	for i := range first[:cap(first)] {
		first[:cap(first)][i] = 7
	}
	second, e := label.Runes(s)
	want, _ := runesOf(s)
	if e != api.OK || !slices.Equal(second, want) {
		t.Errorf("Runes(%q), asked again: %v, %v", s, second, e)
	}
}
