package script_test

import (
	"math"
	"math/rand"
	"slices"
	"strings"
	"testing"

	"annulet/api"
	"annulet/label"
	"annulet/node"
	"annulet/script"
	"annulet/world"
)

// runs holds Run against the second telling.
func runs(t *testing.T, p script.Play) []string {
	t.Helper()
	got, want := script.Run(p), runOf(p)
	if !slices.Equal(got, want) {
		t.Fatalf("Run(%+v) = %q; want %q", p, got, want)
	}
	return got
}

// tells says what comes of a text, line by line; want has a line of lines for each line of it.
func tells(t *testing.T, text, want string) {
	t.Helper()
	got := script.Tell(text)
	if got != tellOf(text) {
		t.Errorf("Tell(%.200q) = %q; want %q", text, got, tellOf(text))
	}
	want = strings.TrimLeft(want, "\n")
	if got != want {
		t.Errorf("Tell(%.200q) = %q; want %q", text, got, want)
	}
}

// anna is that label's identity, as the chapter tells it.
const anna = "1edbe4d598abac0bb9e6a7fdc0aa466d"

// P23.1: the chapter's example.
func TestTellExample(t *testing.T) {
	tells(t, `world 1 64 64 anna bert
boot 0
boot 1
link 0 1
calm 3
ring
send 0 bert hi
calm 1
put 1 anna x
calm 1
`, `
ok
ok
ok
ok
ok
ok
ok
1 up 1edbe4d598abac0bb9e6a7fdc0aa466d hi
0 answer 1 0 0
ok
ok
0 kept 1 x
1 answer 1 0 1 x
`)
}

// P23.1: error, its number, line, the line's number.
func TestTellErrors(t *testing.T) {
	for text, want := range map[string]string{
		"":                                   "error 6 line 0\n",
		"\n#\n":                              "error 6 line 0\n",
		"ring":                               "error 9 line 1\n",
		head + "ring\nfly":                   "error 9 line 3\n",
		head + "\n\nget 0 !\n":               "error 2 line 4\n",
		head + "get 0 ":                      "error 3 line 2\n",
		"#\nworld 1 9 5 " + long(25):         "error 4 line 2\n",
		"world 1 9 5 a b c d e f g":          "error 5 line 1\n",
		"world 1 9 2 a":                      "error 1 line 0\n",
		"world 1 9 5 a A":                    "error 7 line 0\n",
		strings.Repeat("\n", 65537):          "error 4 line 0\n",
		strings.Repeat("#\n", 32768):         "error 6 line 0\n",
		head + strings.Repeat("\n", 65519):   "",
		head + strings.Repeat("\n", 65520):   "error 4 line 0\n",
		head + strings.Repeat("\n", 1000):    "",
		head:                                 "",
		head + "state 0":                     "entries 0 items 0 friends 0\n",
		head + strings.Repeat("ring\n", 3):   "ok\nok\nok\n",
		head + strings.Repeat("tick 0\n", 2): "no\nno\n",
	} {
		tells(t, text, want)
	}
}

func long(n int) string { return strings.Repeat("a", n) }

// P23.1: ok and no, of each word.
func TestOkAndNo(t *testing.T) {
	tells(t, `world 1 64 64 a b
crash 0
tick 0
boot 2
boot 0
boot 0
boot 1
tick 1
tick 2
crash 2
cut 0 1
link 0 0
link 0 2
link 1 0
link 0 1
take 0 1 0
lose 0 1 0
twice 0 1 0
tick 0
take 1 0 0
twice 0 1 0
lose 0 1 5
take 0 1 0
take 0 1 0
take 0 2 0
twice 2 0 0
lose 0 0 0
cut 0 1
cut 1 0
calm 0
calm 65
calm 64
calm 1
power 2 1
power 1 0
power 1 -1
crash 1
crash 1
send 1 a x
send 2 a x
get 1 a
put 1 a x
`, `
no
no
no
ok
no
ok
ok
no
no
no
no
no
ok
no
no
no
no
ok
no
ok
ok
ok
no
no
no
no
ok
no
no
no
ok
ok
no
ok
ok
ok
no
no
no
no
no
`)
}

// P23.1: texts handed up, values kept, and what is answered, with its number, its error, its version and its value.
func TestTellRequests(t *testing.T) {
	tells(t, `world 1 64 9 a
boot 0
put 0 A x
put 0 a y~
get 0 a
get 0 b
send 0 b hi
send 0 A z
state 0
crash 0
get 0 a
boot 0
get 0 a
state 0
`, `
ok
ok
0 kept 1 x
0 answer 1 0 1 x
ok
0 kept 2 y~
0 answer 2 0 2 y~
ok
0 answer 3 0 2 y~
ok
0 answer 4 6 0
ok
0 answer 5 6 0
ok
0 up 35dc1a6158b93a35279e7b3f29bb1137 z
0 answer 6 0 0
entries 0 items 1 friends 0
ok
no
ok
ok
0 answer 1 0 2 y~
entries 0 items 1 friends 0
`)
}

// P23.1: a disk that is full, and one whose power fails.
func TestTellDisks(t *testing.T) {
	tells(t, "world 1 9 3 a\nboot 0\nput 0 a x\ncrash 0\nboot 0\nstate 0\n", "ok\nok\n0 answer 1 5 0\nok\nno\nentries 0 items 0 friends 0\n")
	tells(t, `world 1 9 9 a
boot 0
put 0 a x
power 0 1
put 0 b y
state 0
boot 0
power 0 -1
boot 0
get 0 a
get 0 b
`, `
ok
ok
0 kept 1 x
0 answer 1 0 1 x
ok
no
entries 0 items 0 friends 0
no
ok
ok
ok
0 answer 1 0 1 x
ok
0 answer 2 6 0
`)
}

// P23.1: ring is ok of a world that is Settled and Ringed, of all its nodes and by its Half; state tells entries, items and friends.
func TestRingAndState(t *testing.T) {
	row := "world %H 128 64 a b c d\nboot 0\nboot 1\nboot 2\nboot 3\nlink 0 1\nlink 1 2\nlink 2 3\nring\ncalm 20\nring\nput 0 a x\ncalm 3\nstate 0\nstate 1\nstate 2\nstate 3\nstate 4\ncut 2 3\nring\ncalm 8\nring\nstate 3\n"
	for _, half := range []string{"1", "2", "3"} {
		text := strings.Replace(row, "%H", half, 1)
		if got, want := script.Tell(text), tellOf(text); got != want {
			t.Errorf("%q; want %q", got, want)
		}
		l := strings.Split(script.Tell(text), "\n")
		if l[7] != "no" || l[8] != "ok" || l[9] != "ok" {
			t.Errorf("half %s: %q", half, l[7:10])
		}
		if n := len(l); !slices.Equal(l[n-6:n-2], []string{"ok", "no", "ok", "ok"}) || l[n-7] != "no" || !strings.HasPrefix(l[n-2], "entries 0 items ") {
			t.Errorf("half %s: %q", half, l[n-7:])
		}
	}
	tells(t, "world 1 9 9 a b\nring\nboot 0\nring\nlink 0 1\nring\nboot 1\nring\nstate 2\nstate 1\ncalm 3\nstate 1\nring\ntick 0\nring\n", "ok\nok\nok\nok\nok\nok\nno\nno\nentries 0 items 0 friends 0\nok\nentries 1 items 0 friends 1\nok\nok\nno\n")
}

// P23.1: a table that is full says so.
func TestTellFull(t *testing.T) {
	text := "world 1 1 64 a b c\nboot 0\nboot 1\nboot 2\nlink 0 1\nlink 1 2\ncalm 1\ncalm 1\n"
	tells(t, text, strings.Repeat("ok\n", 7)+"0 full\n1 full\n1 full\n1 full\n")
}

// P23.1: a packet that was forwarded 64 times is lost: it goes round, for the Drop of the path that it is sent on doesn't arrive.
func TestTellLost(t *testing.T) {
	text := "world 2 128 400 n418691 n269843 n403692 n954113\nboot 0\nboot 1\nboot 2\nboot 3\nlink 0 3\nlink 3 1\nlink 2 1\ncalm 4\nlink 1 0\ncalm 3\ncrash 2\ntick 1\nsend 3 n403692 x\n" +
		strings.Repeat("take 3 1 0\ntake 1 0 0\ntake 1 0 0\ntake 0 3 0\n", 22)
	got := script.Tell(text)
	if got != tellOf(text) || strings.Count(got, "lost") != 1 || !strings.Contains(got, "\nok\n1 lost\n") {
		t.Errorf("%q", got)
	}
}

// P23.1: each kind of event is told in its words, or isn't.
func TestEventWords(t *testing.T) {
	id, _ := label.ID("anna")
	item := api.Item{Key: id, Ver: api.Ver{N: 7, Who: id}, Value: []byte("v w\n")}
	all := node.Event{Src: id, Dst: id, Req: 5<<32 + 4000000000, Op: 2, TTL: 3, Code: api.ErrOpen, P: api.Path{Who: id, N: 9}, Item: item, Text: []byte(" t\xff")}
	of := func(kind int, change func(e *node.Event)) world.Event {
		e := all
		e.Kind = kind
		change(&e)
		return world.Event{Step: 1, Node: 3, Event: e}
	}
	as := func(e *node.Event) {}
	bare := func(e *node.Event) { e.Text, e.Item.Value = nil, []byte{} }
	for _, c := range []struct {
		e    world.Event
		want []string
	}{
		{of(node.EvUp, as), []string{"3 up " + anna + "  t\xff"}},
		{of(node.EvUp, bare), []string{"3 up " + anna + " "}},
		{of(node.EvAnswer, as), []string{"3 answer 4000000000 10 7 v w\n"}},
		{of(node.EvAnswer, bare), []string{"3 answer 4000000000 10 7"}},
		{of(node.EvAnswer, func(e *node.Event) { e.Req, e.Code, e.Item = math.MaxInt64, api.OK, api.Item{} }), []string{"3 answer 4294967295 0 0"}},
		{of(node.EvAnswer, func(e *node.Event) { e.Req, e.Item.Ver.N = 1<<32, math.MaxInt64 }), []string{"3 answer 0 10 9223372036854775807 v w\n"}},
		{of(node.EvKept, as), []string{"3 kept 7 v w\n"}},
		{of(node.EvKept, bare), []string{"3 kept 7 "}},
		{of(node.EvFull, as), []string{"3 full"}},
		{of(node.EvLost, as), []string{"3 lost"}},
		{of(node.EvMade, as), nil},
		{of(node.EvStep, as), nil},
		{of(0, as), nil},
		{of(8, as), nil},
		{of(-1, as), nil},
	} {
		if got := script.EventLines(c.e); !slices.Equal(got, c.want) || !slices.Equal(got, eventOf(c.e)) {
			t.Errorf("%+v: %q, want %q", c.e, got, c.want)
		}
	}
}

// P23.1: of drawn plays, and of plays with something in them that no text has.
func TestRunDrawn(t *testing.T) {
	d := rand.New(rand.NewSource(233))
	for range 300 {
		p := drawnPlay(d, d.Intn(120))
		l := runs(t, p)
		text := strings.Join(append(l, ""), "\n")
		if got := script.Tell(printed(p)); got != text {
			t.Fatalf("Tell and Run differ: %q, %q", got, text)
		}
		for range 1 + d.Intn(4) {
			wild(d, &p)
			runs(t, p)
		}
	}
}

// P23.1: what a step has beside what the table says of its word is passed over.
func TestRunPassesOver(t *testing.T) {
	d := rand.New(rand.NewSource(2331))
	for range 300 {
		p := drawnPlay(d, d.Intn(60))
		want := runs(t, p)
		for i := range p.Steps {
			s := &p.Steps[i]
			kinds := rows[s.Word]
			numbers := len(kinds)
			if j := slices.Index(kinds, "LABEL"); j >= 0 {
				numbers = j
			} else {
				s.Name = of(d, "", "anna", "no label", "\xff")
			}
			if !slices.Contains(kinds, "TEXT") {
				s.Text = of(d, "", "x", "a\nb", strings.Repeat("t", 65))
			}
			for j := numbers; j < 3; j++ {
				s.N[j] = of(d, 0, 1, -1, 7, 1<<40)
			}
		}
		if got := runs(t, p); !slices.Equal(got, want) {
			t.Fatalf("%+v: %q; without the rest %q", p, got, want)
		}
	}
}

// booted is a play of one node that runs.
func booted(steps ...script.Step) script.Play {
	p := lone(append([]script.Step{{Word: "boot"}}, steps...)...)
	p.Disk = 64
	return p
}

// P23.1: plays made by hand, of which a text could say nothing.
func TestRunByHand(t *testing.T) {
	for _, c := range []struct {
		s    script.Step
		want []string
	}{
		{script.Step{Word: "send", Name: "ANNA", Text: "a b\n\xff"}, []string{"ok", "0 up " + anna + " a b\n\xff", "0 answer 1 0 0"}},
		{script.Step{Word: "send", Name: "anna"}, []string{"ok", "0 up " + anna + " ", "0 answer 1 0 0"}},
		{script.Step{Word: "send", Name: "anna", Text: long(64)}, []string{"ok", "0 up " + anna + " " + long(64), "0 answer 1 0 0"}},
		{script.Step{Word: "send", Name: "anna", Text: long(65)}, []string{"no"}},
		{script.Step{Word: "put", Name: "x", Text: ""}, []string{"ok", "0 kept 1 ", "0 answer 1 0 1"}},
		{script.Step{Word: "put", Name: "x", Text: " "}, []string{"ok", "0 kept 1  ", "0 answer 1 0 1  "}},
		{script.Step{Word: "put", Name: "x", Text: long(65)}, []string{"no"}},
		{script.Step{Word: "get", Name: "x", Text: "passed over"}, []string{"ok", "0 answer 1 6 0"}},
		{script.Step{Word: "get", Name: ""}, []string{"no"}},
		{script.Step{Word: "get", Name: "a b"}, []string{"no"}},
		{script.Step{Word: "put", Name: long(25), Text: "x"}, []string{"no"}},
		{script.Step{Word: "send", Name: "\xff", Text: "x"}, []string{"no"}},
		{script.Step{Word: "send", N: [3]int{-1}, Name: "anna", Text: "x"}, []string{"no"}},
		{script.Step{Word: "state", N: [3]int{-1}}, []string{"no"}},
		{script.Step{Word: "state", N: [3]int{1}}, []string{"no"}},
		{script.Step{Word: "state", N: [3]int{math.MinInt}}, []string{"no"}},
		{script.Step{Word: "state", N: [3]int{math.MaxInt}}, []string{"no"}},
		{script.Step{Word: "boot", N: [3]int{-1}}, []string{"no"}},
		{script.Step{Word: "tick", N: [3]int{math.MinInt}}, []string{"no"}},
		{script.Step{Word: "tick"}, []string{"ok"}},
		{script.Step{Word: "calm", N: [3]int{-1}}, []string{"no"}},
		{script.Step{Word: "calm", N: [3]int{math.MaxInt}}, []string{"no"}},
		{script.Step{Word: "power", N: [3]int{0, -5}}, []string{"ok"}},
		{script.Step{Word: "power", N: [3]int{0, math.MinInt}}, []string{"ok"}},
		{script.Step{Word: "power", N: [3]int{0, math.MaxInt}}, []string{"ok"}},
		{script.Step{Word: "power", N: [3]int{-1, 1}}, []string{"no"}},
		{script.Step{Word: "take", N: [3]int{-1, math.MaxInt, math.MinInt}}, []string{"no"}},
		{script.Step{Word: "ring", N: [3]int{9, 9, 9}, Name: "x", Text: "y"}, []string{"ok"}},
		{script.Step{Word: ""}, []string{"no"}},
		{script.Step{Word: "world", N: [3]int{1, 9, 5}, Name: "b"}, []string{"no"}},
		{script.Step{Word: "#"}, []string{"no"}},
		{script.Step{Word: "boot 0"}, []string{"no"}},
		{script.Step{Word: "Crash"}, []string{"no"}},
		{script.Step{Word: "\xff"}, []string{"no"}},
	} {
		if l := runs(t, booted(c.s, c.s)); !slices.Equal(l[1:1+len(c.want)], c.want) {
			t.Errorf("%+v: %q, want %q", c.s, l[1:], c.want)
		}
	}
}

// P23.1: numbers stand for frames as in layer 21, however far they are beyond the form.
func TestRunFrames(t *testing.T) {
	for _, i := range []int{0, 1, 2, 3, -1, -2, 999999, 1000000, math.MaxInt, math.MinInt} {
		for _, word := range []string{"take", "lose", "twice"} {
			p := script.Play{Half: 1, Paths: 9, Disk: 9, Names: []string{"a", "b"}, Steps: []script.Step{
				{Word: "boot"}, {Word: "boot", N: [3]int{1}}, {Word: "link", N: [3]int{1, 0}},
				{Word: "tick"}, {Word: "twice", N: [3]int{0, 1, 0}}, {Word: "tick", N: [3]int{1}}, {Word: "take", N: [3]int{1, 0, 0}}, {Word: "tick"},
				{Word: word, N: [3]int{0, 1, i}}, {Word: word, N: [3]int{0, 1, i}}, {Word: word, N: [3]int{0, 1, i}},
				{Word: "take", N: [3]int{0, 1, 1}}, {Word: "take", N: [3]int{0, 1, 0}}, {Word: "calm", N: [3]int{1}}, {Word: "ring"}, {Word: "state"},
			}}
			if l := runs(t, p); len(l) < 16 || l[8] != "ok" {
				t.Errorf("%s %d: %q", word, i, l)
			}
		}
	}
}

// P23.1: none, if a name is no label, or layer 21's New refuses the world.
func TestRunNone(t *testing.T) {
	names := []string{"a", "b", "c", "d", "e", "f", "g", "h"}
	ring := []script.Step{{Word: "ring"}}
	for n := range len(names) + 1 {
		l := runs(t, script.Play{Half: 1, Paths: 9, Disk: 5, Names: names[:n], Steps: ring})
		if (len(l) == 1) != (1 <= n && n <= 6) {
			t.Errorf("%d names: %q", n, l)
		}
	}
	for _, name := range []string{"", " ", "a b", "!", "\xff", long(25), "a\n"} {
		for at := range 3 {
			l := []string{"x", "y"}
			if got := runs(t, script.Play{Half: 1, Paths: 9, Disk: 5, Names: slices.Insert(l, at, name), Steps: ring}); len(got) != 0 {
				t.Errorf("%q: %q", name, got)
			}
		}
	}
	for _, n := range []int{math.MinInt, -1, 0, 1, 2, 3, 4, 128, 129, 4096, 4097, math.MaxInt} {
		for i, p := range []script.Play{{Half: n, Paths: 9, Disk: 5}, {Half: 1, Paths: n, Disk: 5}, {Half: 1, Paths: 9, Disk: n}} {
			p.Names, p.Steps = []string{"a"}, ring
			least, most := []int{1, 1, 3}[i], []int{3, 128, 4096}[i]
			if l := runs(t, p); (len(l) == 1) != (least <= n && n <= most) {
				t.Errorf("%+v: %q", p, l)
			}
		}
	}
	if l := runs(t, script.Play{Half: 1, Paths: 9, Disk: 5, Names: []string{"a", "b", "A"}, Steps: ring}); len(l) != 0 {
		t.Error(l)
	}
	if l := runs(t, script.Play{}); len(l) != 0 {
		t.Error(l)
	}
	if l := runs(t, lone()); len(l) != 0 {
		t.Error(l)
	}
}

// P23.3: each step answers as the world's Do, and behind it stands what happened in that op and is told, in order: also where a step is no op.
func TestRunIsWorld(t *testing.T) {
	a, _ := label.ID("a")
	b, _ := label.ID("b")
	w, _ := world.New(world.Config{IDs: []api.ID{a, b}, Half: 1, Paths: 9, Disk: 9})
	ops := []world.Op{{Kind: world.Boot}, {Kind: world.Boot, A: 1}, {Kind: world.Link, B: 1}, {Kind: world.Calm, I: 3}, {Kind: world.Ask, A: 0, I: api.OpPut, ID: b, Text: []byte("x")}, {Kind: world.Ask, A: 1, I: api.OpGet, ID: b}, {Kind: world.Calm, I: 2}, {Kind: world.Calm, I: 99}}
	text := "world 1 9 9 a b\nboot 0\nboot 1\nlink 0 1\ncalm 3\nput 0 b x\nget 1 b\ncalm 2\ncalm 99\n"
	looks := strings.ReplaceAll(text, "\n", "\nring\nstate 0\nfly\nstate 9\n")
	if e := "error 9 line 4\n"; script.Tell(looks) != e {
		t.Error(script.Tell(looks))
	}
	var want []string
	for _, o := range ops {
		if w.Do(o) {
			want = append(want, "ok")
		} else {
			want = append(want, "no")
		}
		for _, e := range w.Events() {
			if e.Step == w.Steps() {
				want = append(want, eventOf(e)...)
			}
		}
	}
	tells(t, text, strings.Join(append(want, ""), "\n"))
	// Looking in between changes nothing of what is told elsewhere.
	p, _, _ := script.Parse(text)
	var looked []script.Step
	for _, s := range p.Steps {
		looked = append(looked, script.Step{Word: "ring"}, s, script.Step{Word: "ring"}, script.Step{Word: "state", N: [3]int{9}}, script.Step{Word: "fly"})
	}
	p.Steps = looked
	l := runs(t, p)
	at := 0
	for i, s := range want {
		if s != "ok" && s != "no" {
			if l[at] != s {
				t.Errorf("%d: %q, want %q", i, l[at], s)
			}
			at++
			continue
		}
		if i > 0 { // the looks behind the step ahead of this one
			at += 3
		}
		if l[at+1] != s {
			t.Errorf("%d: %q, want %q", i, l[at+1], s)
		}
		at += 2
	}
}

// R1, R2: many steps; and the same play is told alike, however often, and whatever else is played in between.
func TestRunAgain(t *testing.T) {
	d := rand.New(rand.NewSource(2332))
	p := drawnPlay(d, 200)
	want := slices.Clone(script.Run(p))
	for range 5 {
		got := script.Run(p)
		if !slices.Equal(got, want) {
			t.Fatal("another time told otherwise")
		}
		for i := range got {
			got[i] = "changed"
		}
		script.Run(drawnPlay(d, 20))
	}
	many := booted(slices.Repeat([]script.Step{{Word: "send", Name: "anna", Text: "x"}}, 1<<15)...)
	if l := script.Run(many); len(l) != 1+3<<15 {
		t.Error(len(l))
	}
}
