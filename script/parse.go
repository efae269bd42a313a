package script

import (
	"strings"

	"annulet/api"
	"annulet/label"
	"annulet/world"
)

const (
	mostDigits = 6
	mostText   = 32 // bytes of a text
)

// Parse reads a play; else the number of the line that is wrong (0: the whole).
func Parse(s string) (Play, int, api.Errno) {
	if len(s) > api.MaxScript {
		return Play{}, 0, api.ErrLong
	}
	var p Play
	for i, line := range strings.Split(s, "\n") {
		if e := p.take(line); e != api.OK {
			return Play{}, i + 1, e
		}
	}
	if !p.opened() {
		return Play{}, 0, api.ErrNone
	}
	if _, e := begin(p); e != api.OK {
		return Play{}, 0, e
	}
	return p, 0, api.OK
}

// opened tells whether the line that tells the world was read: it has a label at least.
func (p *Play) opened() bool { return len(p.Names) > 0 }

// take reads the next line.
func (p *Play) take(line string) (e api.Errno) {
	if line == "" || line[0] == '#' {
		return api.OK
	}
	defer func() {
		// What a reader throws is always an error's number.
		if thrown, ok := recover().(error); ok {
			e = thrown.(api.Errno)
		}
	}()
	r := &reader{left: strings.Split(line, " ")}
	first := r.word()
	must((first == opening) != p.opened())
	if first == opening {
		r.world(p)
	} else {
		p.Steps = append(p.Steps, r.step(first))
	}
	r.end()
	return api.OK
}

// reader reads a line's words from the left; what is wrong with one is thrown, so that whoever puts a line together needn't ask behind each of them.
type reader struct {
	left []string
}

// must gives up the line, if what it should say isn't so.
func must(so bool) {
	if !so {
		panic(api.ErrLine)
	}
}

// end sees that no word is left.
func (r *reader) end() { must(len(r.left) == 0) }

func (r *reader) word() string {
	must(len(r.left) > 0)
	w := r.left[0]
	r.left = r.left[1:]
	return w
}

// world reads what stands behind the first word of the line that tells the world.
func (r *reader) world(p *Play) {
	p.Half, p.Paths, p.Disk = r.number(), r.number(), r.number()
	p.Names = append(p.Names, r.label())
	for len(r.left) > 0 {
		if len(p.Names) == api.MaxNodes {
			panic(api.ErrFull)
		}
		p.Names = append(p.Names, r.label())
	}
}

// step reads what stands behind a step's word.
func (r *reader) step(word string) Step {
	f, ok := formOf(word)
	must(ok)
	s := Step{Word: word}
	for i := range f.numbers {
		if f.kind == world.Power && i == 1 {
			s.N[i] = r.writes()
		} else {
			s.N[i] = r.number()
		}
	}
	if f.name {
		s.Name = r.label()
	}
	if f.text {
		s.Text = r.text()
	}
	return s
}

func (r *reader) number() int { return number(r.word()) }

// writes reads for how many writes there is power: a number, or -1 (without end).
func (r *reader) writes() int {
	w := r.word()
	if w == "-1" {
		return -1
	}
	return number(w)
}

// number is what digits stand for: a number has no nought ahead.
func number(w string) int {
	must(0 < len(w) && len(w) <= mostDigits)
	must(w == "0" || w[0] != '0')
	n := 0
	for _, d := range w {
		must('0' <= d && d <= '9')
		n = 10*n + int(d-'0')
	}
	return n
}

func (r *reader) label() string {
	w := r.word()
	if _, e := label.Runes(w); e != api.OK {
		panic(e)
	}
	return w
}

func (r *reader) text() string {
	w := r.word()
	must(0 < len(w) && len(w) <= mostText)
	for _, c := range w {
		must('!' <= c && c <= '~')
	}
	return w
}
