package script

import (
	"slices"

	"annulet/api"
)

// Print writes a play.
func Print(p Play) (string, api.Errno) {
	head := []any{opening, p.Half, p.Paths, p.Disk}
	for _, name := range p.Names {
		head = append(head, name)
	}
	var l lines
	l.lay(head...)
	for _, s := range p.Steps {
		l.lay(words(s)...)
	}
	text := l.text()
	// Whatever has no place in the form, or can't stand in its place, isn't read as it was.
	if read, _, e := Parse(text); e != api.OK || !same(read, p) {
		return "", api.ErrArg
	}
	return text, api.OK
}

// words are a step's line; of a word that is none that word alone. (Of numbers below 0 just -1 can be read again, so each is laid as it is.)
func words(s Step) []any {
	f, _ := formOf(s.Word)
	l := []any{s.Word}
	for _, n := range s.N[:f.numbers] {
		l = append(l, n)
	}
	if f.name {
		l = append(l, s.Name)
	}
	if f.text {
		l = append(l, s.Text)
	}
	return l
}

// same tells whether two plays are one.
func same(p, q Play) bool {
	return p.Half == q.Half && p.Paths == q.Paths && p.Disk == q.Disk &&
		slices.Equal(p.Names, q.Names) && slices.Equal(p.Steps, q.Steps)
}
