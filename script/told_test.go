package script_test

import (
	"fmt"
	"reflect"
	"regexp"
	"strings"

	"annulet/api"
	"annulet/label"
	"annulet/node"
	"annulet/script"
	"annulet/watch"
	"annulet/world"
)

// The second telling of the chapter: its table as it stands there, its words as patterns, and a world that is asked for its events behind each op.

const chapter = `boot N, crash N, tick N
calm N
link N N, cut N N
take N N N, lose N N N, twice N N N
power N K
send N LABEL TEXT, put N LABEL TEXT
get N LABEL
ring
state N`

// rows are the words of each line of the chapter's table, by the first one.
var rows = func() map[string][]string {
	m := map[string][]string{}
	for _, row := range regexp.MustCompile(`, |\n`).Split(chapter, -1) {
		words := strings.Fields(row)
		m[words[0]] = words[1:]
	}
	return m
}()

var (
	isNumber = regexp.MustCompile(`^(0|[1-9][0-9]{0,5})$`)
	isWrites = regexp.MustCompile(`^(-1|0|[1-9][0-9]{0,5})$`)
	isText   = regexp.MustCompile(`^[\x21-\x7e]{1,32}$`)
	ending   = regexp.MustCompile("\n")
	blank    = regexp.MustCompile(" ")
)

// faultOf is what is wrong with a word that should be of that kind.
func faultOf(kind, word string) api.Errno {
	so := true
	switch kind {
	case "N":
		so = isNumber.MatchString(word)
	case "K":
		so = isWrites.MatchString(word)
	case "TEXT":
		so = isText.MatchString(word)
	case "LABEL":
		_, e := label.Runes(word)
		return e
	case "SEVENTH":
		return api.ErrFull
	}
	if !so {
		return api.ErrLine
	}
	return api.OK
}

// kindsOf are the kinds of words that should stand in a line, behind the first one.
func kindsOf(words []string) ([]string, bool) {
	if words[0] != "world" {
		kinds, ok := rows[words[0]]
		return kinds, ok
	}
	kinds := strings.Fields("N N N LABEL LABEL LABEL LABEL LABEL LABEL SEVENTH")
	return kinds[:max(4, min(len(words)-1, len(kinds)))], true
}

// lineOf is what is wrong with a line by itself.
func lineOf(words []string) api.Errno {
	kinds, ok := kindsOf(words)
	if !ok {
		return api.ErrLine
	}
	for i, kind := range kinds {
		if len(words) < i+2 {
			return api.ErrLine
		}
		if e := faultOf(kind, words[i+1]); e != api.OK {
			return e
		}
	}
	if len(words) > len(kinds)+1 {
		return api.ErrLine
	}
	return api.OK
}

// whole is a number as it is written.
func whole(word string) int {
	var n int
	if _, err := fmt.Sscanf(word, "%d", &n); err != nil {
		panic(err)
	}
	return n
}

// stepOf is the step of a line with which nothing is wrong.
func stepOf(words []string) script.Step {
	s := script.Step{Word: words[0]}
	numbers := 0
	for i, kind := range rows[words[0]] {
		switch word := words[i+1]; kind {
		case "N", "K":
			s.N[numbers] = whole(word)
			numbers++
		case "LABEL":
			s.Name = word
		case "TEXT":
			s.Text = word
		}
	}
	return s
}

// parseOf is what Parse should answer.
func parseOf(s string) (script.Play, int, api.Errno) {
	if len(s) > 65536 {
		return script.Play{}, 0, api.ErrLong
	}
	var p script.Play
	worlds := 0
	for at, line := range ending.Split(s, -1) {
		if line == "" || line[:1] == "#" {
			continue
		}
		words := blank.Split(line, -1)
		if (words[0] == "world") == (worlds == 1) {
			return script.Play{}, at + 1, api.ErrLine
		}
		if e := lineOf(words); e != api.OK {
			return script.Play{}, at + 1, e
		}
		if words[0] == "world" {
			worlds++
			p.Half, p.Paths, p.Disk, p.Names = whole(words[1]), whole(words[2]), whole(words[3]), words[4:]
		} else {
			p.Steps = append(p.Steps, stepOf(words))
		}
	}
	if worlds == 0 {
		return script.Play{}, 0, api.ErrNone
	}
	if _, e := worldOf(p); e != api.OK {
		return script.Play{}, 0, e
	}
	return p, 0, api.OK
}

// worldOf is the world of a play.
func worldOf(p script.Play) (*world.World, api.Errno) {
	var ids []api.ID
	for _, name := range p.Names {
		id, e := label.ID(name)
		if e != api.OK {
			return nil, e
		}
		ids = append(ids, id)
	}
	return world.New(world.Config{IDs: ids, Half: p.Half, Paths: p.Paths, Disk: p.Disk})
}

// minus is a number as Print writes it.
func minus(n int) string {
	if n < 0 {
		return "-1"
	}
	return fmt.Sprint(n)
}

// printOf is what Print should answer.
func printOf(p script.Play) (string, api.Errno) {
	var b strings.Builder
	fmt.Fprint(&b, "world ", minus(p.Half), " ", minus(p.Paths), " ", minus(p.Disk))
	for _, name := range p.Names {
		fmt.Fprint(&b, " ", name)
	}
	fmt.Fprintln(&b)
	for _, s := range p.Steps {
		fmt.Fprint(&b, s.Word)
		numbers := s.N[:]
		for _, kind := range rows[s.Word] {
			switch kind {
			case "N", "K":
				fmt.Fprint(&b, " ", minus(numbers[0]))
				numbers = numbers[1:]
			case "LABEL":
				fmt.Fprint(&b, " ", s.Name)
			case "TEXT":
				fmt.Fprint(&b, " ", s.Text)
			}
		}
		fmt.Fprintln(&b)
	}
	if q, _, e := parseOf(b.String()); e != api.OK || !one(p, q) {
		return "", api.ErrArg
	}
	return b.String(), api.OK
}

// one tells whether two plays are the same; no list is an empty one.
func one(p, q script.Play) bool {
	return reflect.DeepEqual(filled(p), filled(q))
}

func filled(p script.Play) script.Play {
	p.Names = append([]string{}, p.Names...)
	p.Steps = append([]script.Step{}, p.Steps...)
	return p
}

// opOf is what a step does: each row of the chapter's table by itself.
func opOf(s script.Step) world.Op {
	asks := func(what int, text []byte) world.Op {
		id, e := label.ID(s.Name)
		if e != api.OK {
			return world.Op{Kind: -1}
		}
		return world.Op{Kind: world.Ask, A: s.N[0], I: what, ID: id, Text: text}
	}
	switch s.Word {
	case "boot":
		return world.Op{Kind: world.Boot, A: s.N[0]}
	case "crash":
		return world.Op{Kind: world.Crash, A: s.N[0]}
	case "tick":
		return world.Op{Kind: world.Tick, A: s.N[0]}
	case "calm":
		return world.Op{Kind: world.Calm, I: s.N[0]}
	case "link":
		return world.Op{Kind: world.Link, A: s.N[0], B: s.N[1]}
	case "cut":
		return world.Op{Kind: world.Cut, A: s.N[0], B: s.N[1]}
	case "take":
		return world.Op{Kind: world.Take, A: s.N[0], B: s.N[1], I: s.N[2]}
	case "lose":
		return world.Op{Kind: world.Lose, A: s.N[0], B: s.N[1], I: s.N[2]}
	case "twice":
		return world.Op{Kind: world.Twice, A: s.N[0], B: s.N[1], I: s.N[2]}
	case "power":
		return world.Op{Kind: world.Power, A: s.N[0], I: s.N[1]}
	case "send":
		return asks(api.OpSend, []byte(s.Text))
	case "put":
		return asks(api.OpPut, []byte(s.Text))
	case "get":
		return asks(api.OpGet, nil)
	}
	return world.Op{Kind: -1}
}

// eventOf is how an event is told, if it is.
func eventOf(e world.Event) []string {
	switch e.Kind {
	case node.EvUp:
		return []string{fmt.Sprintf("%d up %x %s", e.Node, e.Src[:], e.Text)}
	case node.EvAnswer:
		line := fmt.Sprintf("%d answer %d %d %d", e.Node, e.Req&0xffffffff, int(e.Code), e.Item.Ver.N)
		if len(e.Item.Value) > 0 {
			line += " " + string(e.Item.Value)
		}
		return []string{line}
	case node.EvKept:
		return []string{fmt.Sprintf("%d kept %d %s", e.Node, e.Item.Ver.N, e.Item.Value)}
	case node.EvFull:
		return []string{fmt.Sprintf("%d full", e.Node)}
	case node.EvLost:
		return []string{fmt.Sprintf("%d lost", e.Node)}
	}
	return nil
}

// runOf is what Run should answer.
func runOf(p script.Play) []string {
	w, e := worldOf(p)
	if e != api.OK {
		return nil
	}
	var told []string
	said := map[bool]string{true: "ok", false: "no"}
	for _, s := range p.Steps {
		before := len(w.Events())
		switch {
		case s.Word == "ring":
			vs := watch.Views(w, len(p.Names))
			told = append(told, said[watch.Settled(vs, w.Linked) && watch.Ringed(vs, w.Linked, p.Half)])
		case s.Word == "state" && (s.N[0] < 0 || s.N[0] >= len(p.Names)):
			told = append(told, "no")
		case s.Word == "state":
			v := w.View(s.N[0])
			told = append(told, fmt.Sprintf("entries %d items %d friends %d", len(v.Entries), len(v.Items), len(watch.Friends(v))))
		default:
			told = append(told, said[w.Do(opOf(s))])
		}
		for _, e := range w.Events()[before:] {
			told = append(told, eventOf(e)...)
		}
	}
	return told
}

// tellOf is what Tell should answer.
func tellOf(s string) string {
	p, line, e := parseOf(s)
	if e != api.OK {
		return fmt.Sprintf("error %d line %d\n", int(e), line)
	}
	var b strings.Builder
	for _, line := range runOf(p) {
		fmt.Fprintln(&b, line)
	}
	return b.String()
}
