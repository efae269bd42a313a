package script

import (
	"strconv"
	"strings"
)

// lines are what is told, line by line.
type lines []string

// lay lays a line of words, each of which is a text or a number.
func (l *lines) lay(words ...any) {
	texts := make([]string, len(words))
	for i, w := range words {
		text, ok := w.(string)
		if !ok {
			text = strconv.Itoa(w.(int))
		}
		texts[i] = text
	}
	*l = append(*l, strings.Join(texts, " "))
}

// text is all lines, each of them ended.
func (l lines) text() string {
	if len(l) == 0 {
		return ""
	}
	return strings.Join(l, "\n") + "\n"
}
