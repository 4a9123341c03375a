package series

import (
	"strings"

	"grist/api"
)

// escape stands ahead of each sign of a name that the text of a series, or what stands around it, would take for its own.
const escape = '\\'

func isEscaped(c byte) bool {
	switch c {
	case ',', '=', ' ', '#', escape:
		return true
	}
	return false
}

// mostText is how many bytes the text of a formed series has at most: names of signs that are escaped, and a comma and an equals sign of each tag.
const mostText = 2*api.MostName + api.MostTags*(2+4*api.MostName)

func writeName(out *strings.Builder, name string) {
	for i := range len(name) {
		if isEscaped(name[i]) {
			out.WriteByte(escape)
		}
		out.WriteByte(name[i])
	}
}

// read undoes Text, of names and tags whatever they are; false, if text is written otherwise.
func read(text string) (api.Series, bool) {
	name, rest, ok := readName(text)
	s := api.Series{Name: name}
	for ok && rest != "" {
		var t api.Tag
		t, rest, ok = readTag(rest)
		s.Tags = append(s.Tags, t)
	}
	return s, ok
}

// readTag answers the tag that text begins with, from its comma on, and what is behind it.
func readTag(text string) (api.Tag, string, bool) {
	text, isTag := strings.CutPrefix(text, ",")
	key, rest, isKey := readName(text)
	rest, isPair := strings.CutPrefix(rest, "=")
	held, rest, isValue := readName(rest)
	return api.Tag{Key: key, Value: held}, rest, isTag && isKey && isPair && isValue
}

// readName answers the name whose text s begins with, and what is behind it: nothing, or what begins with a sign of no name's text.
// False, if a backslash stands ahead of a byte that needs none.
func readName(s string) (string, string, bool) {
	var name strings.Builder
	for i := 0; i < len(s); i++ {
		if s[i] == escape {
			i++
			if i == len(s) || !isEscaped(s[i]) {
				return "", "", false
			}
		} else if isEscaped(s[i]) {
			return name.String(), s[i:], true
		}
		name.WriteByte(s[i])
	}
	return name.String(), "", true
}
