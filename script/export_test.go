package script

import "annulet/world"

// EventLines are the lines by which an event is told, for tests: no world has each kind of them at will, with what they may tell.
func EventLines(e world.Event) []string {
	var l lines
	l.event(e)
	return l
}
