package script_test

import (
	"math/rand"
	"strings"
	"testing"

	"annulet/api"
	"annulet/script"
)

// parses holds Parse against the second telling.
func parses(t *testing.T, s string) {
	t.Helper()
	p, line, e := script.Parse(s)
	q, wantLine, want := parseOf(s)
	if e != want || line != wantLine || !one(p, q) {
		t.Fatalf("Parse(%q) = %+v, %d, %v; want %+v, %d, %v", s, p, line, e, q, wantLine, want)
	}
}

// fails says what is wrong with a text.
func fails(t *testing.T, s string, line int, e api.Errno) {
	t.Helper()
	parses(t, s)
	p, at, got := script.Parse(s)
	if got != e || at != line || !one(p, script.Play{}) {
		t.Errorf("Parse(%.60q) = %+v, %d, %v; want line %d, %v", s, p, at, got, line, e)
	}
}

// reads says what a text is read as.
func reads(t *testing.T, s string, want script.Play) {
	t.Helper()
	parses(t, s)
	p, line, e := script.Parse(s)
	if e != api.OK || line != 0 || !one(p, want) {
		t.Errorf("Parse(%.60q) = %+v, %d, %v; want %+v", s, p, line, e, want)
	}
}

// head is a line that tells a world, and lone that world.
const head = "world 1 9 5 anna\n"

func lone(steps ...script.Step) script.Play {
	return script.Play{Half: 1, Paths: 9, Disk: 5, Names: []string{"anna"}, Steps: steps}
}

// P23.1: each line of the table, with its numbers in order, its label and its text.
func TestParseEachLine(t *testing.T) {
	for line, want := range map[string]script.Step{
		"boot 1":         {Word: "boot", N: [3]int{1}},
		"crash 2":        {Word: "crash", N: [3]int{2}},
		"tick 3":         {Word: "tick", N: [3]int{3}},
		"calm 64":        {Word: "calm", N: [3]int{64}},
		"link 1 2":       {Word: "link", N: [3]int{1, 2}},
		"cut 2 1":        {Word: "cut", N: [3]int{2, 1}},
		"take 1 2 3":     {Word: "take", N: [3]int{1, 2, 3}},
		"lose 4 5 6":     {Word: "lose", N: [3]int{4, 5, 6}},
		"twice 7 8 9":    {Word: "twice", N: [3]int{7, 8, 9}},
		"power 1 2":      {Word: "power", N: [3]int{1, 2}},
		"power 1 -1":     {Word: "power", N: [3]int{1, -1}},
		"send 5 Bert hi": {Word: "send", N: [3]int{5}, Name: "Bert", Text: "hi"},
		"put 6 über x~!": {Word: "put", N: [3]int{6}, Name: "über", Text: "x~!"},
		"get 7 a-1":      {Word: "get", N: [3]int{7}, Name: "a-1"},
		"ring":           {Word: "ring"},
		"state 999999":   {Word: "state", N: [3]int{999999}},
	} {
		reads(t, head+line, lone(want))
		reads(t, head+line+"\n", lone(want))
		reads(t, head+line+"\n"+line, lone(want, want))
		fails(t, line+"\n"+head, 1, api.ErrLine)
		for end := range len(line) { // each beginning of the line, whether it is one by itself or not
			parses(t, head+line[:end])
			parses(t, head+line[:end]+"\nring")
		}
		fails(t, head+line+" ", 2, api.ErrLine)
		fails(t, head+line+" 0", 2, api.ErrLine)
		fails(t, head+" "+line, 2, api.ErrLine)
		fails(t, head+"\t"+line, 2, api.ErrLine)
		fails(t, head+strings.ToUpper(line), 2, api.ErrLine)
		if strings.Contains(line, " ") {
			fails(t, head+strings.Replace(line, " ", "  ", 1), 2, api.ErrLine)
			fails(t, head+strings.Replace(line, " ", "\t", 1), 2, api.ErrLine)
		}
	}
}

// some are words of all kinds, and of none.
func some() []string {
	a := func(n int) string { return strings.Repeat("a", n) }
	return []string{
		"", "0", "1", "5", "00", "01", "10", "-1", "-0", "-01", "-2", "--1", "+1", "1.", "1e3", "٣", "１",
		"99999", "100000", "999999", "0999999", "1000000", "9999999", "099999", "999999999999999999999999",
		"a", "A", "z-9", "é", "Ärger", "\u00a0", "\u00a1", "\ufffd", "\U0010ffff", "\xff", "a\xff", "\xffa", "\xed\xa0\x80", "\u2028",
		a(24), a(25), a(31), a(32), a(33), strings.Repeat("é", 24), strings.Repeat("é", 25), a(24) + "!", a(25) + "!", "!" + a(25),
		"!", "~", "\x7f", "\x1f", "\t", "a\x7f", "\x00", "\r", "a\r", "0\r", "#", "#1", "!~\"#$%&'()*+,-./:;<=>?@[]^_{|}",
		"world", "boot", "Boot", "send", "power", "ring", "state", "ringer", "rin",
	}
}

// P23.1: at each place of each line each word, and any two of them.
func TestParseWords(t *testing.T) {
	words, few := some(), []string{"", "01", "-1", "a", "!", "a\xff", "aaaaaaaaaaaaaaaaaaaaaaaaa", "world", "\x7f"}
	for _, line := range []string{"boot 0", "link 0 0", "take 0 0 0", "power 0 0", "power 0 -1", "send 0 a x", "put 0 a x", "get 0 a", "ring", "calm 1", "state 0"} {
		parts := strings.Split(line, " ")
		parts = append(parts, "") // a word more than there should be
		for i := range parts {
			for _, w := range words {
				l := append([]string{}, parts...)
				l[i] = w
				parses(t, head+strings.Join(l, " "))
				parses(t, head+strings.Join(l[:len(l)-1], " "))
				parses(t, head+strings.Join(l[:i+1], " "))
				for j := range i { // two faults in one line
					for _, v := range few {
						l[j] = v
						parses(t, head+strings.Join(l, " "))
						parses(t, head+strings.Join(l[:len(l)-1], " "))
					}
					l[j] = parts[j]
				}
			}
		}
	}
}

// P23.1: lines of few words, whole: by themselves, behind the line that tells the world, and in its place.
func TestParseLines(t *testing.T) {
	words := []string{"", "world", "boot", "power", "send", "ring", "0", "3", "-1", "07", "a", "B", "é!", "#"}
	var grow func(line string, left int)
	grow = func(line string, left int) {
		parses(t, line)
		parses(t, head+line)
		if left == 0 {
			return
		}
		for _, w := range words {
			grow(line+" "+w, left-1)
		}
	}
	for _, w := range words {
		grow(w, 3)
	}
	for _, w := range words {
		grow("world 1 1 3 a "+w, 2)
		grow("world 1 1 3 a b c d "+w, 2)
	}
}

// P23.1: rows of lines, whole.
func TestParseRows(t *testing.T) {
	lines := []string{"", "#", "# world 1 9 5 a", " ", "world 1 9 5 a", "world 1 9 2 a", "world 1 9 5 a A", "world 0 9 5 a b", "world", "ring", "boot x", "send 0 é! x", "fly"}
	var grow func(text string, left int)
	grow = func(text string, left int) {
		parses(t, text)
		if left == 0 {
			return
		}
		for _, l := range lines {
			grow(text+"\n"+l, left-1)
		}
	}
	for _, l := range lines {
		grow(l, 3)
	}
}

// P23.1: a text of few bytes, whole.
func TestParseBytes(t *testing.T) {
	var grow func(text string, left int)
	grow = func(text string, left int) {
		parses(t, text)
		parses(t, head+text)
		parses(t, head+"state "+text)
		parses(t, "world 1 9 5 "+text)
		if left == 0 {
			return
		}
		for _, b := range []string{"\n", " ", "#", "a", "0", "7", "-", "\xc3"} {
			grow(text+b, left-1)
		}
	}
	grow("", 4)
	for b := range 256 {
		one := string([]byte{byte(b)})
		parses(t, one)
		parses(t, head+one)
		parses(t, head+one+"\nring")
		parses(t, head+"ring"+one)
		parses(t, head+"ring"+one+"ring")
		parses(t, head+"boot "+one)
		parses(t, head+"boot 1"+one)
		parses(t, head+"get 0 "+one)
		parses(t, head+"get 0 a"+one+"a")
		parses(t, head+"send 0 a "+one)
		parses(t, head+"send 0 a x"+one+"x")
		parses(t, head+"# "+one+"\nring")
		parses(t, one+head)
	}
}

// P23.1: a number is 1 to 6 digits, 0 or without a nought ahead.
func TestParseNumbers(t *testing.T) {
	for word, n := range map[string]int{"0": 0, "1": 1, "9": 9, "10": 10, "123456": 123456, "100000": 100000, "999999": 999999} {
		reads(t, head+"boot "+word, lone(script.Step{Word: "boot", N: [3]int{n}}))
		reads(t, head+"power 1 "+word, lone(script.Step{Word: "power", N: [3]int{1, n}}))
		reads(t, head+"take 0 0 "+word, lone(script.Step{Word: "take", N: [3]int{0, 0, n}}))
	}
	for _, word := range []string{"", "00", "01", "000000", "012345", "0123456", "1000000", "-1", "-0", "+1", "1a", "a1", "1_0", "0x1", "½", "\xff1"} {
		fails(t, head+"boot "+word, 2, api.ErrLine)
		fails(t, head+"link 0 "+word, 2, api.ErrLine)
		fails(t, head+"lose 0 0 "+word, 2, api.ErrLine)
		fails(t, "world "+word+" 9 5 a", 1, api.ErrLine)
		fails(t, "world 1 "+word+" 5 a", 1, api.ErrLine)
		fails(t, "world 1 9 "+word+" a", 1, api.ErrLine)
	}
	// One number alone may be below 0, and only by one.
	fails(t, head+"power -1 1", 2, api.ErrLine)
	fails(t, head+"power 1 -2", 2, api.ErrLine)
	fails(t, head+"power 1 -01", 2, api.ErrLine)
	fails(t, head+"power 1 -", 2, api.ErrLine)
	fails(t, head+"power 1 01", 2, api.ErrLine)
	fails(t, head+"power 1 1000000", 2, api.ErrLine)
	fails(t, head+"calm -1", 2, api.ErrLine)
	fails(t, head+"link 0 -1", 2, api.ErrLine)
}

// P23.1: a text is 1 to 32 bytes from 33 to 126.
func TestParseTexts(t *testing.T) {
	for _, word := range []string{"x", "!", "~", "#", "-1", "world", strings.Repeat("!", 32), strings.Repeat("~", 32)} {
		reads(t, head+"send 0 a "+word, lone(script.Step{Word: "send", Name: "a", Text: word}))
		reads(t, head+"put 0 a "+word+"\n", lone(script.Step{Word: "put", Name: "a", Text: word}))
	}
	for _, word := range []string{"", strings.Repeat("!", 33), " ", "\x7f", "\x1f", "\x00", "é", "\xff", "a\x7f", "a\tb", "x\r", "\u0161"} {
		fails(t, head+"send 0 a "+word, 2, api.ErrLine)
		fails(t, head+"put 0 a "+word, 2, api.ErrLine)
	}
	fails(t, head+"send 0 a x y", 2, api.ErrLine) // a blank ends it
	fails(t, head+"get 0 a x", 2, api.ErrLine)
	fails(t, head+"send 0 a", 2, api.ErrLine)
}

// P23.1: layer 2's error of a label that is none.
func TestParseLabels(t *testing.T) {
	for word, e := range map[string]api.Errno{
		"": api.ErrShort, "!": api.ErrForm, "a_b": api.ErrForm, "\xff": api.ErrForm, "a\xc3": api.ErrForm, "a\ufffd": api.ErrForm, "\u00a0": api.ErrForm,
		strings.Repeat("a", 25): api.ErrLong, strings.Repeat("é", 25): api.ErrLong, strings.Repeat("a", 24) + "!": api.ErrForm, strings.Repeat("a", 25) + "!": api.ErrLong,
	} {
		fails(t, head+"get 0 "+word, 2, e)
		fails(t, head+"send 0 "+word+" x", 2, e)
		fails(t, head+"put 0 "+word+" \x01", 2, e) // from the left: the label is the first fault
		fails(t, head+"put x "+word+" y", 2, api.ErrLine)
		fails(t, "world 1 9 5 "+word, 1, e)
		fails(t, "#\nworld 1 9 5 a b c d e "+word, 2, e)
		fails(t, "world 1 9 5 a "+word+" c d e f g", 1, e)
		fails(t, "world 1 9 5 a b c d e f "+word, 1, api.ErrFull)
	}
	// A label stands as it is written, however it counts.
	most := strings.Repeat("É", 24)
	reads(t, "world 1 9 5 ANNA "+most+"\nget 0 Anna", script.Play{Half: 1, Paths: 9, Disk: 5, Names: []string{"ANNA", most}, Steps: []script.Step{{Word: "get", Name: "Anna"}}})
}

// P23.1: the line world has 1 to 6 labels; the seventh is too much, whatever it is.
func TestParseWorld(t *testing.T) {
	labels := []string{"a", "b", "c", "d", "e", "f"}
	for n := 1; n <= 6; n++ {
		reads(t, "world 3 128 4096 "+strings.Join(labels[:n], " "), script.Play{Half: 3, Paths: 128, Disk: 4096, Names: labels[:n]})
	}
	six := "world 1 9 5 a b c d e f"
	for _, seventh := range []string{"g", "a", "", "!", "g h", " ", strings.Repeat("a", 25)} {
		fails(t, six+" "+seventh, 1, api.ErrFull)
		fails(t, "\n#\n\n"+six+" "+seventh, 4, api.ErrFull)
	}
	fails(t, "world 1 9 5 a b c d e  g", 1, api.ErrShort)
	fails(t, "world 1 9 a b", 1, api.ErrLine)
	for _, short := range []string{"world", "world 1", "world 1 9", "world 1 9 5"} {
		fails(t, short, 1, api.ErrLine)
		fails(t, short+"\nring", 1, api.ErrLine)
	}
	fails(t, "world 1 9 5 ", 1, api.ErrShort)
	fails(t, "world ", 1, api.ErrLine)
	fails(t, "world  1 9 5 a", 1, api.ErrLine)
	fails(t, "worlds 1 9 5 a", 1, api.ErrLine)
}

// P23.1: the line world stands once, ahead of all others that say something.
func TestParseWorldOnce(t *testing.T) {
	fails(t, head+head, 2, api.ErrLine)
	fails(t, head+"ring\n\n"+head, 4, api.ErrLine)
	fails(t, head+"world", 2, api.ErrLine)
	fails(t, head+"world 1 9 5 !", 2, api.ErrLine)
	fails(t, head+"world 1 9 5 a b c d e f g", 2, api.ErrLine)
	fails(t, "ring\n"+head, 1, api.ErrLine)
	fails(t, "# x\n\nget 0 !\n"+head, 3, api.ErrLine) // there was no world: ahead of what else is wrong with it
	fails(t, "get 0 !", 1, api.ErrLine)
	fails(t, "fly\n"+head, 1, api.ErrLine)
	reads(t, "# first\n\n#world 9 9 9\n"+head+"#world\nring\n", lone(script.Step{Word: "ring"}))
}

// P23.1: the errors of the whole, which say no line's number.
func TestParseWhole(t *testing.T) {
	for _, s := range []string{"", "\n", "\n\n\n", "#", "# x", "#\n", "#world 1 9 5 a\n\n"} {
		fails(t, s, 0, api.ErrNone)
	}
	for _, numbers := range []string{"0 9 5", "4 9 5", "1 0 5", "1 129 5", "1 9 2", "1 9 4097", "1 9 0", "999999 999999 999999"} {
		fails(t, "world "+numbers+" a", 0, api.ErrArg)
		fails(t, "world "+numbers+" a A\nring\n", 0, api.ErrArg)
		fails(t, "world "+numbers+" a\n\nfly", 3, api.ErrLine) // behind all lines
		fails(t, "world "+numbers+" !", 1, api.ErrForm)
	}
	for _, names := range []string{"a a", "a A", "b a A", "Ab c aB d", "é É é"} {
		fails(t, "world 1 9 5 "+names, 0, api.ErrThere)
		fails(t, "world 1 9 5 "+names+"\nstate 0", 0, api.ErrThere)
		fails(t, "world 1 9 5 "+names+"\nstate", 2, api.ErrLine)
	}
	reads(t, "world 1 9 5 é É", script.Play{Half: 1, Paths: 9, Disk: 5, Names: []string{"é", "É"}}) // these count as themselves
	for _, numbers := range []string{"1 1 3", "3 128 4096"} {
		if _, _, e := script.Parse("world " + numbers + " a"); e != api.OK {
			t.Errorf("%s: %v", numbers, e)
		}
	}
}

// P23.1: a text has at most 65536 bytes.
func TestParseLength(t *testing.T) {
	if api.MaxScript != 65536 {
		t.Fatal("another limit")
	}
	for _, line := range []string{"#", "#\n", "ring\n", "\n", "state 0\n"} {
		most := head + strings.Repeat(line, 65536)[:65536-len(head)]
		parses(t, most)
		if _, _, e := script.Parse(most); e == api.ErrLong {
			t.Errorf("%q: 65536 bytes are too many", line)
		}
		fails(t, most+"\n", 0, api.ErrLong)
		fails(t, most+line, 0, api.ErrLong)
	}
	fails(t, strings.Repeat("\n", 65537), 0, api.ErrLong)
	fails(t, strings.Repeat("\n", 65536), 0, api.ErrNone)
	fails(t, strings.Repeat(" ", 65536), 1, api.ErrLine)
	fails(t, strings.Repeat("\xff", 65537), 0, api.ErrLong)
	fails(t, strings.Repeat("fly\n", 1<<20), 0, api.ErrLong)
	// A wrong line is told ahead of the end, however far the end is.
	fails(t, head+strings.Repeat("\n", 60000)+"fly", 60002, api.ErrLine)
}

// P23.1: of several wrong lines the first is told.
func TestParseFirstLine(t *testing.T) {
	fails(t, head+"\nboot\nget 0 !", 3, api.ErrLine)
	fails(t, head+"\nget 0 !\nboot", 3, api.ErrForm)
	fails(t, head+"ring\nget 0 \n"+head, 3, api.ErrShort)
	fails(t, "world 1 9 5 a b c d e f g\nfly", 1, api.ErrFull)
}

// P23.1: texts that are nearly right: some bytes of a drawn play are others, are gone, or stand twice.
func TestParseDrawn(t *testing.T) {
	d := rand.New(rand.NewSource(231))
	for range 20000 {
		text := []byte(printed(drawnPlay(d, 1+d.Intn(8))))
		for range d.Intn(4) {
			i := d.Intn(len(text))
			switch d.Intn(5) {
			case 0:
				text[i] = byte(d.Intn(256))
			case 1:
				text = append(text[:i], text[i+1:]...)
			case 2:
				text = append(text[:i+1], text[i:]...)
			case 3:
				text[i] = "\n #0-9aA!~"[d.Intn(10)]
			case 4:
				w := some()[d.Intn(len(some()))]
				text = []byte(string(text[:i]) + w + string(text[i:]))
			}
			if len(text) == 0 {
				break
			}
		}
		parses(t, string(text))
	}
}

// R2: the same text is read as the same play, each time; and what was read is the caller's own.
func TestParseAgain(t *testing.T) {
	text := "world 1 9 5 a b\nboot 0\nget 0 a\n"
	p, _, _ := script.Parse(text)
	p.Names[0], p.Steps[0].N[0] = "x", 9
	_ = append(p.Names[:1], "y", "z")
	_ = append(p.Steps[:1], script.Step{Word: "fly"})
	reads(t, text, script.Play{Half: 1, Paths: 9, Disk: 5, Names: []string{"a", "b"}, Steps: []script.Step{{Word: "boot"}, {Word: "get", Name: "a"}}})
}
