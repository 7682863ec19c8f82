// Package text is layer 1: see shared/doc/01-text.md.
package text

import (
	"strings"

	"recordlink/api"
)

// A pair is the byte lead and a byte from low to high: in UTF-8, a letter of Latin-1 from U+00C0 to U+00FF.
const (
	lead = 0xC3
	low  = 0x80
	high = 0xBF
)

// replacements has the replacement of each pair, by its second byte less low.
var replacements = [64]string{
	"a", "a", "a", "a", "a", "a", "ae", "c", // 80 to 87
	"e", "e", "e", "e", "i", "i", "i", "i", // 88 to 8F
	"d", "n", "o", "o", "o", "o", "o", "", // 90 to 97
	"o", "u", "u", "u", "u", "y", "th", "ss", // 98 to 9F
	"a", "a", "a", "a", "a", "a", "ae", "c", // A0 to A7
	"e", "e", "e", "e", "i", "i", "i", "i", // A8 to AF
	"d", "n", "o", "o", "o", "o", "o", "", // B0 to B7
	"o", "u", "u", "u", "u", "y", "th", "y", // B8 to BF
}

// Valid reports whether a text has permitted bytes and length.
func Valid(s string) bool {
	if len(s) > api.MaxText {
		return false
	}
	for i := 0; i < len(s); i++ {
		switch {
		case s[i] >= ' ' && s[i] <= '~':
		case startsPair(s[i:]):
			i++
		default:
			return false
		}
	}
	return true
}

// startsPair reports whether a text begins with a pair.
func startsPair(s string) bool {
	return len(s) >= 2 && s[0] == lead && s[1] >= low && s[1] <= high
}

// Fold folds a text.
func Fold(s string) (string, api.Errno) {
	if !Valid(s) {
		return "", api.ErrText
	}
	// With a space for each separator, what lies between separators is the tokens.
	return Join(Tokens(spell(s))), api.OK
}

// spell returns a valid text with its pairs replaced, its letters lower-case, its apostrophes dropped, and a space for each separator.
func spell(s string) string {
	var b strings.Builder
	for i := 0; i < len(s); i++ {
		c := s[i]
		switch {
		case c == lead:
			i++
			b.WriteString(replacements[s[i]-low])
		case c >= 'A' && c <= 'Z':
			b.WriteByte(c - 'A' + 'a')
		case isLetter(c) || c >= '0' && c <= '9':
			b.WriteByte(c)
		case c != '\'':
			b.WriteByte(' ')
		}
	}
	return b.String()
}

// isLetter reports whether a byte is a letter from a to z.
func isLetter(c byte) bool { return c >= 'a' && c <= 'z' }

// Folded reports whether a text is what Fold returns of itself.
func Folded(s string) bool {
	folded, e := Fold(s)
	return e == api.OK && folded == s
}

// Tokens returns the parts of a text between spaces.
func Tokens(s string) []string {
	var tokens []string
	for _, part := range strings.Split(s, " ") {
		if part != "" {
			tokens = append(tokens, part)
		}
	}
	return tokens
}

// Join joins parts with single spaces.
func Join(tokens []string) string { return strings.Join(tokens, " ") }

// Letters returns the letters a to z of a text.
func Letters(s string) string {
	var b strings.Builder
	for i := 0; i < len(s); i++ {
		if isLetter(s[i]) {
			b.WriteByte(s[i])
		}
	}
	return b.String()
}
