package script_test

import (
	"math/rand"
	"slices"
	"strings"
	"testing"

	"annulet/api"
	"annulet/script"
)

// printed is a play's text.
func printed(p script.Play) string {
	s, e := script.Print(p)
	if e != api.OK {
		panic(e)
	}
	return s
}

// prints holds Print against the second telling, and what it writes against what Parse reads.
func prints(t *testing.T, p script.Play) {
	t.Helper()
	s, e := script.Print(p)
	want, wantErr := printOf(p)
	if s != want || e != wantErr {
		t.Fatalf("Print(%+v) = %q, %v; want %q, %v", p, s, e, want, wantErr)
	}
	q, line, e := script.Parse(s)
	if wantErr == api.OK && (e != api.OK || line != 0 || !one(p, q)) {
		t.Fatalf("%q is read as %+v, %d, %v; want %+v", s, q, line, e, p)
	}
}

// every is a play with each line of the table.
func every() script.Play {
	return script.Play{Half: 1, Paths: 64, Disk: 64, Names: []string{"Anna", "Ärger-7"}, Steps: []script.Step{
		{Word: "boot", N: [3]int{0}}, {Word: "crash", N: [3]int{1}}, {Word: "tick", N: [3]int{2}}, {Word: "calm", N: [3]int{64}},
		{Word: "link", N: [3]int{0, 1}}, {Word: "cut", N: [3]int{1, 0}},
		{Word: "take", N: [3]int{0, 1, 2}}, {Word: "lose", N: [3]int{3, 4, 5}}, {Word: "twice", N: [3]int{6, 999999, 0}},
		{Word: "power", N: [3]int{0, 5}}, {Word: "power", N: [3]int{1, -1}},
		{Word: "send", N: [3]int{0}, Name: "bert", Text: "hi"}, {Word: "put", N: [3]int{1}, Name: "X", Text: strings.Repeat("~", 32)}, {Word: "get", N: [3]int{2}, Name: "日本"},
		{Word: "ring"}, {Word: "state", N: [3]int{1}},
	}}
}

// P23.1: each line of the table, as it is written.
func TestPrintEachLine(t *testing.T) {
	want := "world 1 64 64 Anna Ärger-7\nboot 0\ncrash 1\ntick 2\ncalm 64\nlink 0 1\ncut 1 0\ntake 0 1 2\nlose 3 4 5\ntwice 6 999999 0\npower 0 5\npower 1 -1\nsend 0 bert hi\nput 1 X ~~~~~~~~~~~~~~~~~~~~~~~~~~~~~~~~\nget 2 日本\nring\nstate 1\n"
	if s, e := script.Print(every()); s != want || e != api.OK {
		t.Errorf("%q, %v; want %q", s, e, want)
	}
	prints(t, every())
	for _, none := range [][]script.Step{nil, {}} {
		p := lone(none...)
		if s, e := script.Print(p); s != head || e != api.OK {
			t.Errorf("no step: %q, %v", s, e)
		}
	}
}

// refused says that a play can't be written.
func refused(t *testing.T, p script.Play) {
	t.Helper()
	prints(t, p)
	if s, e := script.Print(p); s != "" || e != api.ErrArg {
		t.Errorf("Print(%+v) = %q, %v", p, s, e)
	}
}

// P23.1: a step has what the table says of its word, and no more.
func TestPrintNoMore(t *testing.T) {
	for i, s := range every().Steps {
		kinds := rows[s.Word]
		for n := range s.N {
			p := every()
			p.Steps[i].N[n]++
			if takes := slices.Contains(kinds, "N") && n < len(kinds) && (kinds[n] == "N" || kinds[n] == "K"); takes && p.Steps[i].N[n] < 1000000 {
				prints(t, p)
				if _, e := script.Print(p); e != api.OK {
					t.Errorf("%+v: %v", p.Steps[i], e)
				}
			} else {
				refused(t, p)
			}
		}
		if !slices.Contains(kinds, "LABEL") {
			p := every()
			p.Steps[i].Name = "x"
			refused(t, p)
		}
		if !slices.Contains(kinds, "TEXT") {
			p := every()
			p.Steps[i].Text = "x"
			refused(t, p)
		}
	}
}

// P23.1: words that are none, numbers, names and texts that can't be written.
func TestPrintRefuses(t *testing.T) {
	with := func(change func(p *script.Play)) {
		t.Helper()
		p := every()
		change(&p)
		refused(t, p)
	}
	refused(t, script.Play{})
	refused(t, script.Play{Half: 1, Paths: 9, Disk: 5})
	refused(t, script.Play{Half: 1, Paths: 9, Disk: 5, Names: []string{}, Steps: []script.Step{{Word: "ring"}}})
	for _, word := range []string{"", "world", "#", "#ring", "fly", "Boot", "boot ", " boot", "boot 0", "ring\nring", "\n", "ring\n", "\xff"} {
		with(func(p *script.Play) { p.Steps[0].Word = word })
		refused(t, lone(script.Step{Word: word}))
		refused(t, lone(script.Step{Word: "ring"}, script.Step{Word: word}))
		refused(t, lone(script.Step{Word: word, N: [3]int{1, 9, 5}, Name: "a", Text: "a"}))
	}
	refused(t, lone(script.Step{Word: ""}, script.Step{Word: "ring\nring"})) // as many lines as steps
	for _, n := range []int{-1, -2, 1000000, 1 << 40, -1 << 63, 1<<63 - 1} {
		for i, s := range every().Steps {
			for at, kind := range rows[s.Word] {
				if kind == "N" || kind == "K" && n != -1 {
					with(func(p *script.Play) { p.Steps[i].N[at] = n })
				}
			}
		}
		with(func(p *script.Play) { p.Half = n })
		with(func(p *script.Play) { p.Paths = n })
		with(func(p *script.Play) { p.Disk = n })
	}
	for _, name := range []string{"", " ", "a b", "!", "\n", "a\n", "\xff", "\ufffd", strings.Repeat("a", 25), "a\nring", "a x"} {
		with(func(p *script.Play) { p.Names[0] = name })
		with(func(p *script.Play) { p.Names = append(p.Names, name) })
		with(func(p *script.Play) { p.Steps[11].Name = name })
		with(func(p *script.Play) { p.Steps[13].Name = name })
	}
	for _, text := range []string{"", " ", "a b", "\x7f", "\n", "x\n", "é", "\xff", strings.Repeat("x", 33), "x\nring"} {
		with(func(p *script.Play) { p.Steps[11].Text = text })
		with(func(p *script.Play) { p.Steps[12].Text = text })
	}
}

// P23.1: worlds that layer 21 refuses, and one with names that count as one.
func TestPrintWorlds(t *testing.T) {
	names := []string{"a", "b", "c", "d", "e", "f", "g", "h"}
	for n := range len(names) + 1 {
		p := script.Play{Half: 1, Paths: 9, Disk: 5, Names: names[:n]}
		prints(t, p)
		if _, e := script.Print(p); (e == api.OK) != (1 <= n && n <= 6) {
			t.Errorf("%d names: %v", n, e)
		}
	}
	for _, n := range []int{0, 1, 2, 3, 4, 5, 128, 129, 4096, 4097, 999999} {
		prints(t, script.Play{Half: n, Paths: 9, Disk: 5, Names: names[:2]})
		prints(t, script.Play{Half: 1, Paths: n, Disk: 5, Names: names[:2]})
		prints(t, script.Play{Half: 1, Paths: 9, Disk: n, Names: names[:2]})
	}
	refused(t, script.Play{Half: 1, Paths: 9, Disk: 5, Names: []string{"a", "A"}})
	prints(t, script.Play{Half: 1, Paths: 9, Disk: 5, Names: []string{"a", "á"}})
}

// P23.1: what is written has at most 65536 bytes.
func TestPrintLength(t *testing.T) {
	states := slices.Repeat([]script.Step{{Word: "state", N: [3]int{10}}}, 7276)
	long := func(text int) script.Play {
		return lone(append(slices.Clone(states), script.Step{Word: "send", Name: "a", Text: strings.Repeat("x", text)})...)
	}
	prints(t, long(25))
	if s, e := script.Print(long(25)); e != api.OK || len(s) != 65536 {
		t.Error(len(s), e)
	}
	refused(t, long(26))
	refused(t, lone(slices.Repeat(states, 20)...))
	// The last line needn't end: what is read of such a text may be a byte too long to be written.
	p, _, e := script.Parse(strings.TrimSuffix(printed(long(25)), "\n") + "x")
	if e != api.OK || !one(p, long(26)) {
		t.Error(e)
	}
}

// P23.2: Parse(Print(p)) is p, of drawn plays; and of those with something in them that no text has Print tells ErrArg, if it stands in its way.
func TestPrintDrawn(t *testing.T) {
	d := rand.New(rand.NewSource(232))
	for range 5000 {
		p := drawnPlay(d, d.Intn(12))
		prints(t, p)
		if _, e := script.Print(p); e != api.OK {
			t.Fatalf("%+v: %v", p, e)
		}
		for range 1 + d.Intn(2) {
			wild(d, &p)
			prints(t, p)
		}
	}
}

// nothings puts lines that say nothing into a text: its lines, and whereto each of them came.
func nothings(d *rand.Rand, s string) (string, []int) {
	var l []string
	var at []int
	for _, line := range strings.Split(s, "\n") {
		for range d.Intn(3) {
			l = append(l, of(d, "", "#", "# x", "#world 1 9 5 a", "#\xff", "# "+line))
		}
		l = append(l, line)
		at = append(at, len(l))
	}
	return strings.Join(l, "\n"), at
}

// P23.2: lines that say nothing change nothing but lines' numbers.
func TestNothings(t *testing.T) {
	d := rand.New(rand.NewSource(2322))
	for range 3000 {
		s := printed(drawnPlay(d, d.Intn(10)))
		if d.Intn(2) == 0 { // something is wrong with it
			i := d.Intn(len(s))
			s = s[:i] + of(d, "", " ", "!", "\x00") + s[i+1:]
		}
		p, line, e := script.Parse(s)
		more, at := nothings(d, s)
		q, moved, f := script.Parse(more)
		want := 0
		if line > 0 {
			want = at[line-1]
		}
		if f != e || !one(p, q) || moved != want {
			t.Fatalf("%q: %d, %v; %q: %d (want %d), %v", s, line, e, more, moved, want, f)
		}
	}
}

// R3: what is handed in is left as it is, its spare room too.
func TestPrintLeaves(t *testing.T) {
	p := every()
	names := append(make([]string, 0, 9), p.Names...)
	steps := append(make([]script.Step, 0, 40), p.Steps...)
	p.Names, p.Steps = names, steps
	for range 2 {
		if s, e := script.Print(p); s != printed(every()) || e != api.OK {
			t.Error(s, e)
		}
		script.Run(p)
	}
	if !one(p, every()) {
		t.Error("it was changed")
	}
	for _, name := range names[:cap(names)][len(names):] {
		if name != "" {
			t.Error("its spare room was written to")
		}
	}
	for _, s := range steps[:cap(steps)][len(steps):] {
		if s != (script.Step{}) {
			t.Error("its spare room was written to")
		}
	}
}
