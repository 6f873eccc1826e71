// Package rows goes through the lines of texts that are no comments. It is no layer: it serves the layers that read such texts.
package rows

import (
	"batchline/api"
	"batchline/lines"
)

// Each calls take with the words of each line of text that is no comment, in order, until there is an error. It returns the first error and the number of its line, from 1 on; the line is 0 if there is none, or if the text as a whole has the error.
func Each(text string, take func(words []string) api.Errno) (int, api.Errno) {
	split, e := lines.Split(text)
	if e != api.OK {
		return 0, e
	}
	for i, words := range split {
		if len(words) == 0 {
			continue
		}
		if e := take(words); e != api.OK {
			return i + 1, e
		}
	}
	return 0, api.OK
}
