package script_test

import (
	"math/rand"
	"strings"

	"annulet/script"
)

// of is one of some, drawn.
func of[T any](d *rand.Rand, l ...T) T { return l[d.Intn(len(l))] }

// drawnNames are names of a world, no two of which count as one.
func drawnNames(d *rand.Rand, nodes int) []string {
	l := []string{"anna", "Bert", "über", "c-3", "7", "Dora", "日本", "ÉÉ", "zz-top", strings.Repeat("w", 24)}
	d.Shuffle(len(l), func(i, j int) { l[i], l[j] = l[j], l[i] })
	return l[:nodes]
}

// drawnText is a text that a line may have.
func drawnText(d *rand.Rand) string {
	b := make([]byte, 1+d.Intn(of(d, 3, 32)))
	for i := range b {
		b[i] = byte(33 + d.Intn(94))
	}
	return string(b)
}

// drawnStep is a step of a world with these names; now and then of a node, a link or a name that there isn't.
func drawnStep(d *rand.Rand, names []string) script.Step {
	node := func() int { return d.Intn(len(names) + d.Intn(2)) }
	name := func() string {
		if d.Intn(5) == 0 {
			return of(d, "nobody", "ANNA", "x")
		}
		return of(d, names...)
	}
	switch word := of(d, "boot", "crash", "tick", "tick", "calm", "calm", "link", "link", "cut", "take", "take", "take", "take", "lose", "twice", "power", "send", "send", "put", "put", "get", "get", "ring", "state"); word {
	case "boot", "crash", "tick", "state":
		return script.Step{Word: word, N: [3]int{node()}}
	case "calm":
		return script.Step{Word: word, N: [3]int{d.Intn(4)}}
	case "link", "cut":
		return script.Step{Word: word, N: [3]int{node(), node()}}
	case "take", "lose", "twice":
		return script.Step{Word: word, N: [3]int{node(), node(), d.Intn(4)}}
	case "power":
		return script.Step{Word: word, N: [3]int{node(), of(d, -1, -1, 0, 1, 2, 7)}}
	case "get":
		return script.Step{Word: word, N: [3]int{node()}, Name: name()}
	case "ring":
		return script.Step{Word: word}
	default:
		return script.Step{Word: word, N: [3]int{node()}, Name: name(), Text: drawnText(d)}
	}
}

// drawnPlay is a play that can be written: most of its nodes run, and are linked, ahead of what else is drawn.
func drawnPlay(d *rand.Rand, steps int) script.Play {
	p := script.Play{Half: 1 + d.Intn(3), Paths: of(d, 1, 2, 5, 128, 128), Disk: of(d, 3, 4, 6, 40), Names: drawnNames(d, 1+d.Intn(6))}
	for a := range p.Names {
		if d.Intn(6) > 0 {
			p.Steps = append(p.Steps, script.Step{Word: "boot", N: [3]int{a}})
		}
		if a > 0 && d.Intn(6) > 0 {
			p.Steps = append(p.Steps, script.Step{Word: "link", N: [3]int{d.Intn(a), a}})
		}
	}
	for range steps {
		p.Steps = append(p.Steps, drawnStep(d, p.Names))
	}
	return p
}

// wild puts something in some place of a play that no text has there.
func wild(d *rand.Rand, p *script.Play) {
	number := func() int {
		return of(d, -2, -1, 0, 3, 6, 7, 64, 65, 128, 129, 999999, 1000000, 1<<31, 1<<62, -1<<63, 1<<63-1)
	}
	text := func() string {
		return of(d, "", " ", "a b", "\n", "a\nring", "#", "\xff", "\x00", strings.Repeat("x", 33), strings.Repeat("y", 64), strings.Repeat("z", 65), "ANNA", "-1", "0")
	}
	if len(p.Steps) == 0 || d.Intn(8) == 0 {
		switch d.Intn(5) {
		case 0:
			p.Half = number()
		case 1:
			p.Paths = number()
		case 2:
			p.Disk = number()
		case 3:
			p.Names = p.Names[:d.Intn(len(p.Names)+1)]
		case 4:
			p.Names = append(p.Names, text())
		}
		return
	}
	s := &p.Steps[d.Intn(len(p.Steps))]
	switch d.Intn(4) {
	case 0:
		s.Word = of(d, text(), "world", "fly", "Boot", "boot 0", "ring\nring")
	case 1:
		s.N[d.Intn(3)] = number()
	case 2:
		s.Name = text()
	case 3:
		s.Text = text()
	}
}
