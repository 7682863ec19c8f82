package text_test

import (
	"slices"
	"strings"
	"testing"

	"recordlink/api"
	"recordlink/text"
)

// seconds has the second bytes of the pairs with each replacement, as chapter 1 lists them (ranges by their ends).
func seconds() map[string][][2]int {
	return map[string][][2]int{
		"a":  {{0x80, 0x85}, {0xA0, 0xA5}},
		"ae": {{0x86, 0x86}, {0xA6, 0xA6}},
		"c":  {{0x87, 0x87}, {0xA7, 0xA7}},
		"e":  {{0x88, 0x8B}, {0xA8, 0xAB}},
		"i":  {{0x8C, 0x8F}, {0xAC, 0xAF}},
		"d":  {{0x90, 0x90}, {0xB0, 0xB0}},
		"n":  {{0x91, 0x91}, {0xB1, 0xB1}},
		"o":  {{0x92, 0x96}, {0x98, 0x98}, {0xB2, 0xB6}, {0xB8, 0xB8}},
		"":   {{0x97, 0x97}, {0xB7, 0xB7}},
		"u":  {{0x99, 0x9C}, {0xB9, 0xBC}},
		"y":  {{0x9D, 0x9D}, {0xBD, 0xBD}, {0xBF, 0xBF}},
		"th": {{0x9E, 0x9E}, {0xBE, 0xBE}},
		"ss": {{0x9F, 0x9F}},
	}
}

// pair returns the pair with this second byte.
func pair(second int) string { return string([]byte{0xC3, byte(second)}) }

// expectFold checks what Fold, Valid and Folded say of a valid text.
func expectFold(t *testing.T, s, want string) {
	t.Helper()
	if got, e := text.Fold(s); e != api.OK || got != want {
		t.Errorf("Fold(%q) is %q, %d, not %q", s, got, e, want)
	}
	if !text.Valid(s) {
		t.Errorf("%q is valid", s)
	}
	if text.Folded(s) != (s == want) {
		t.Errorf("Folded(%q) is %v", s, text.Folded(s))
	}
}

// expectInvalid checks what Fold, Valid and Folded say of a text that is not valid.
func expectInvalid(t *testing.T, s string) {
	t.Helper()
	if got, e := text.Fold(s); e != api.ErrText || got != "" {
		t.Errorf("Fold(%q) is %q, %d", s, got, e)
	}
	if text.Valid(s) || text.Folded(s) {
		t.Errorf("%q is neither valid nor folded", s)
	}
}

// P1.1: the examples of the document.
func TestFoldExamples(t *testing.T) {
	expectFold(t, "O'Neill-M\xc3\xbcller", "oneill muller")
	expectFold(t, "Strau\xc3\x9f", "strauss")
	expectFold(t, "  A. b ", "a b")
}

// P1.1: each pair has the replacement that the table gives, at each place of a text.
func TestFoldPairs(t *testing.T) {
	count := 0
	for want, ranges := range seconds() {
		for _, r := range ranges {
			for second := r[0]; second <= r[1]; second++ {
				count++
				expectFold(t, pair(second), want)
				expectFold(t, "X"+pair(second)+"Z", "x"+want+"z")
				expectFold(t, pair(second)+pair(second), want+want)
			}
		}
	}
	if count != 64 {
		t.Errorf("the table has %d pairs", count)
	}
}

// P1.1: the pairs that are replaced by nothing and the apostrophe do not separate.
func TestFoldDropped(t *testing.T) {
	expectFold(t, "1\xc3\x972\xc3\xb73", "123")
	expectFold(t, "D'Arcy", "darcy")
	expectFold(t, "''", "")
	expectFold(t, "\xc3\x97\xc3\xb7", "")
	expectFold(t, "a ' b", "a b")
	expectFold(t, "a \xc3\x97 b", "a b")
	expectFold(t, "' a '", "a")
}

// P1.1: letters become lower-case, digits and small letters stay, the apostrophe goes, and every other byte separates.
func TestFoldBytes(t *testing.T) {
	for c := 32; c <= 126; c++ {
		s := string([]byte{byte(c)})
		middle := " "
		switch {
		case c >= 'A' && c <= 'Z':
			middle = strings.ToLower(s)
		case c >= 'a' && c <= 'z' || c >= '0' && c <= '9':
			middle = s
		case c == 39:
			middle = ""
		}
		expectFold(t, s, strings.TrimSpace(middle))
		expectFold(t, "x"+s+"7", "x"+middle+"7")
		expectFold(t, s+"x"+s, strings.TrimSpace(middle+"x"+middle))
	}
}

// P1.1: separators in a row count as one, and none is left at the ends.
func TestFoldSeparators(t *testing.T) {
	expectFold(t, "", "")
	expectFold(t, " ", "")
	expectFold(t, "-._ ", "")
	expectFold(t, "a  b", "a b")
	expectFold(t, " a", "a")
	expectFold(t, "a ", "a")
	expectFold(t, "-a- -.b_c/", "a b c")
	expectFold(t, "a b1 c", "a b1 c")
}

// P1.1: bytes that are not permitted, alone and within a text.
func TestInvalidBytes(t *testing.T) {
	for c := range 256 {
		if c >= 32 && c <= 126 {
			continue
		}
		s := string([]byte{byte(c)})
		expectInvalid(t, s)
		expectInvalid(t, "a"+s)
		expectInvalid(t, s+"a")
		expectInvalid(t, "\xc3\xa4"+s)
	}
}

// P1.1: a pair needs the byte 0xC3 and a second byte from 0x80 to 0xBF.
func TestInvalidPairs(t *testing.T) {
	for second := range 256 {
		if second >= 0x80 && second <= 0xBF {
			continue
		}
		expectInvalid(t, pair(second))
		expectInvalid(t, pair(second)+"\x80")
	}
	for first := 0x7F; first < 256; first++ {
		if first != 0xC3 {
			expectInvalid(t, string([]byte{byte(first), 0x84}))
		}
	}
	expectInvalid(t, "a\xc3")
	expectInvalid(t, "\xc3\xc3\x84")
	expectInvalid(t, "\xc3\x84\x84")
	expectInvalid(t, "\xe2\x82\xac")
}

// P1.1: the length is counted in bytes, before anything is dropped.
func TestValidLength(t *testing.T) {
	for _, c := range []string{"x", "1", "'", " ", "-"} {
		longest := strings.Repeat(c, api.MaxText)
		want := longest
		if c != "x" && c != "1" {
			want = ""
		}
		expectFold(t, longest, want)
		expectInvalid(t, longest+c)
		expectInvalid(t, strings.Repeat(c, 1<<16))
	}
	expectFold(t, strings.Repeat("\xc3\x9f", api.MaxText/2), strings.Repeat("ss", api.MaxText/2))
	expectFold(t, strings.Repeat("\xc3\xa4", api.MaxText/2), strings.Repeat("a", api.MaxText/2))
	expectInvalid(t, strings.Repeat("\xc3\xa4", api.MaxText/2)+"a")
	expectInvalid(t, strings.Repeat("x", api.MaxText-1)+"\xc3\xa4")
}

// P1.1: Folded tells the texts that Fold leaves as they are.
func TestFolded(t *testing.T) {
	for _, s := range []string{"", "a", "7", "a b1", "muller 12 b"} {
		if !text.Folded(s) {
			t.Errorf("%q is folded", s)
		}
	}
	for _, s := range []string{" ", "A", " a", "a ", "a  b", "a-b", "a'b", "\xc3\xa4", "\xc3\x97", "a\tb", "\x00", strings.Repeat("a", api.MaxText+1)} {
		if text.Folded(s) {
			t.Errorf("%q is not folded", s)
		}
	}
}

// P1.1, consequences: what Fold returns is folded, has no superfluous space, and is not too long.
func TestFoldTwice(t *testing.T) {
	parts := []string{"", "a", "Z", "7", " ", "-", "'", "~", "\xc3\x9f", "\xc3\x97", "\xc3\xbf", "\xc3\x86"}
	for _, a := range parts {
		for _, b := range parts {
			for _, c := range parts {
				for _, d := range parts {
					checkFolded(t, a+b+c+d)
				}
			}
		}
	}
}

// checkFolded checks the consequences for a valid text.
func checkFolded(t *testing.T, s string) {
	t.Helper()
	folded, e := text.Fold(s)
	if e != api.OK {
		t.Fatalf("%q: %d", s, e)
	}
	if again, e := text.Fold(folded); e != api.OK || again != folded || !text.Folded(folded) {
		t.Errorf("Fold(%q) is %q, and this is folded to %q, %d", s, folded, again, e)
	}
	if len(folded) > api.MaxText || strings.Trim(folded, " ") != folded || strings.Contains(folded, "  ") {
		t.Errorf("Fold(%q) is %q", s, folded)
	}
}

// P1.2: Tokens parts a text at spaces and at nothing else.
func TestTokens(t *testing.T) {
	for s, want := range map[string][]string{
		"":                 nil,
		" ":                nil,
		"   ":              nil,
		"a":                {"a"},
		"ab c":             {"ab", "c"},
		"  ab   c ":        {"ab", "c"},
		"a a":              {"a", "a"},
		"c b a":            {"c", "b", "a"},
		" a\tb\nc\rd ":     {"a\tb\nc\rd"},
		"A-'b \xff\x00 ":   {"A-'b", "\xff\x00"},
		"\xc3\xa4\xc2\xa0": {"\xc3\xa4\xc2\xa0"},
	} {
		if got := text.Tokens(s); !slices.Equal(got, want) {
			t.Errorf("Tokens(%q) is %q, not %q", s, got, want)
		}
	}
	if got := text.Tokens(strings.Repeat("ab ", 10000)); len(got) != 10000 || got[9999] != "ab" {
		t.Errorf("%d tokens of a long text", len(got))
	}
}

// P1.2: Join puts one space between texts, whatever they are, and changes none of them.
func TestJoin(t *testing.T) {
	for _, c := range []struct {
		tokens []string
		want   string
	}{
		{nil, ""},
		{[]string{}, ""},
		{[]string{""}, ""},
		{[]string{"a"}, "a"},
		{[]string{"a", "b"}, "a b"},
		{[]string{"b", "a", "b"}, "b a b"},
		{[]string{"", ""}, " "},
		{[]string{"a", "", "b"}, "a  b"},
		{[]string{" a ", "B\xff"}, " a  B\xff"},
	} {
		before := slices.Clone(c.tokens)
		if got := text.Join(c.tokens); got != c.want {
			t.Errorf("Join(%q) is %q, not %q", c.tokens, got, c.want)
		}
		if !slices.Equal(before, c.tokens) {
			t.Errorf("Join has changed its argument from %q to %q", before, c.tokens)
		}
	}
	if got := text.Join(text.Tokens("  a  b c ")); got != "a b c" {
		t.Errorf("%q", got)
	}
}

// P1.2: Letters keeps the bytes from a to z alone, in order, of any text.
func TestLetters(t *testing.T) {
	for s, want := range map[string]string{
		"":                        "",
		"A1b-c":                   "bc",
		"cab a":                   "caba",
		"ABC 123":                 "",
		"x\x00y\xffz":             "xyz",
		"m\xc3\xbcller":           "mller",
		strings.Repeat("aB", 500): strings.Repeat("a", 500),
	} {
		if got := text.Letters(s); got != want {
			t.Errorf("Letters(%q) is %q, not %q", s, got, want)
		}
	}
	all := make([]byte, 256)
	for i := range all {
		all[i] = byte(i)
	}
	if got := text.Letters(string(all)); got != "abcdefghijklmnopqrstuvwxyz" {
		t.Errorf("of all bytes: %q", got)
	}
}
