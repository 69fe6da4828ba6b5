package story

import (
	"strings"
)

// Quote writes a text as one word of a line.
func Quote(s string) string {
	var out strings.Builder
	out.WriteByte('"')
	for _, sign := range s {
		switch sign {
		case '"', '\\':
			out.WriteByte('\\')
			out.WriteRune(sign)
		case '\n':
			out.WriteString(`\n`)
		default:
			out.WriteRune(sign)
		}
	}
	out.WriteByte('"')
	return out.String()
}

// Unquote tells the text that Quote wrote.
func Unquote(s string) (string, bool) {
	text, length, ok := quoted(s)
	if !ok || length < len(s) {
		return "", false
	}
	return text, true
}

// quoted tells the text of the word of Quote that s begins with, and how many bytes that word has.
func quoted(s string) (string, int, bool) {
	inner, ok := strings.CutPrefix(s, `"`)
	if !ok {
		return "", 0, false
	}
	var out strings.Builder
	behind := false // a backslash
	for i, sign := range inner {
		switch {
		case !behind && sign == '"':
			// What Quote would write otherwise is none of its words: bytes that begin no sign, a bare newline.
			length := i + 2
			text := out.String()
			if Quote(text) != s[:length] {
				return "", 0, false
			}
			return text, length, true
		case !behind && sign == '\\':
			behind = true
			continue
		case behind && sign == 'n':
			out.WriteByte('\n')
		default:
			out.WriteRune(sign)
		}
		behind = false
	}
	return "", 0, false
}
