// Package told writes what a server says as texts, for tests and for whoever looks at a session.
package told

import (
	"strconv"
	"strings"

	"glazier/api"
)

// kind tells what a message is, by a letter.
func kind(k int) string {
	switch k {
	case api.Fault:
		return "fault"
	case api.Answer:
		return "answer"
	}
	return "event"
}

// Out tells a message: its kind, its code, its numbers, its text, its row.
func Out(o api.Out) string {
	words := []string{kind(o.Kind), strconv.Itoa(o.Code)}
	for _, v := range o.N {
		words = append(words, strconv.FormatInt(v, 10))
	}
	if o.B != "" {
		words = append(words, strconv.Quote(o.B))
	}
	if len(o.L) > 0 {
		words = append(words, "row")
	}
	for _, v := range o.L {
		words = append(words, strconv.FormatInt(v, 10))
	}
	return strings.Join(words, " ")
}

// Sends tells all that is said, each behind its client; the pairs are numbers, and what stands for them.
func Sends(l []api.Send, pairs ...string) string {
	var lines []string
	for _, s := range l {
		words := strings.Split(strconv.Itoa(s.Client)+" "+Out(s.Out), " ")
		for i, w := range words {
			for j := 0; j+1 < len(pairs); j += 2 {
				if i > 0 && w == pairs[j] {
					words[i] = pairs[j+1]
				}
			}
		}
		lines = append(lines, strings.Join(words, " "))
	}
	return strings.Join(lines, "; ")
}
